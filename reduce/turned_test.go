package reduce_test

import (
	"math/rand/v2"
	"testing"

	"horarium/api"
	"horarium/bound"
	"horarium/graph"
	"horarium/node"
	"horarium/reduce"
	"horarium/runs"
	"horarium/sample"
	"horarium/word"
)

// follows: P11.3, W3, W5: what Table tells of l is a table that is the same to all, as long, with as many ticks of each, no more switches, no more nodes, in time, and stuck unless it is kept. The runs of both; none, if l is refused.
func follows(t *testing.T, c api.Config, l []api.Node) ([]api.Run, []api.Run, api.Report) {
	t.Helper()
	got, rep, why := reduce.Table(c, l)
	if why != api.OK {
		return nil, nil, rep
	}
	was, _ := runs.Of(l)
	is, no := runs.Of(got)
	fail := func(what string) {
		t.Helper()
		t.Fatalf("%+v: %s is told as %s, %+v: %s", c, nodes(l), nodes(got), rep, what)
	}
	if no != api.OK || node.Right(got) != api.OK {
		fail("no table")
	}
	if p, q, differ := word.Differ(was, is, graph.Depends(c)); differ || !same(sample.TiesOf(c), ticks(was), ticks(is)) {
		fail("told apart by " + short([]api.Run{{Part: p, N: int64(q)}}))
	}
	if x, _ := node.Length(got); runs.Length(is) != runs.Length(was) || x != runs.Length(was) {
		fail("not as long")
	}
	for p := -1; p < api.MaxParts; p++ {
		if runs.Ticks(is, p) != runs.Ticks(was, p) {
			fail("not as many ticks")
		}
	}
	if runs.Switches(is) > runs.Switches(was) || len(got) > len(l) {
		fail("more switches, or more nodes")
	}
	if bound.Holds(c, is) != api.OK || sample.Holds(c, ticks(is)) != api.OK {
		fail("not in time")
	}
	if _, more := draw(c, is); !rep.Kept && (more || !reduce.Stuck(c, is)) {
		fail("a move fits")
	}
	return was, is, rep
}

// TestFollows: P11.3 of tables of all kinds, by modules of all kinds; what was told is told as it is, unless it folds worse.
func TestFollows(t *testing.T) {
	r := rand.New(rand.NewPCG(11, 7))
	turned, kept := 0, 0
	for _, m := range modules() {
		for _, l := range append(tables(r, len(m.Parts)), tables(r, api.MaxParts)[:2]...) {
			c := m
			if was, why := runs.Of(l); why == api.OK {
				c = asked(r, m, was)
			}
			if _, _, rep := follows(t, c, l); rep.Kept {
				kept++
			} else if rep.Moves > 0 {
				turned++
			}
		}
	}
	for _, l := range sample.Tables() {
		for _, c := range []api.Config{{}, free(6), module(make([]api.Part, 6), ch(0, 1, 0), ch(2, 3, 0)), module([]api.Part{{Sched: true}, {Sched: true}, {Sched: true}})} {
			follows(t, c, l)
		}
	}
	if turned < 3000 || kept < 300 {
		t.Errorf("no more than %d were turned about, %d kept", turned, kept)
	}
}

// TestAgain: what was told, told again: no more moves, no more nodes.
func TestAgain(t *testing.T) {
	r := rand.New(rand.NewPCG(11, 8))
	for _, c := range modules() {
		for _, l := range tables(r, len(c.Parts)) {
			first, rep, why := reduce.Table(c, l)
			if why != api.OK {
				continue
			}
			second, again, why := reduce.Table(c, first)
			if why != api.OK || again.Moves != 0 || again.Was != rep.Runs || again.Runs != rep.Runs || again.WasNode != rep.Nodes || again.Nodes != rep.Nodes || !node.Same(first, second) {
				t.Fatalf("%+v: %s is told as %s, and that as %s: %+v, %+v, %d", c, nodes(l), nodes(first), nodes(second), rep, again, int(why))
			}
		}
	}
}

// TestWorld: W1: a module at work has the same ports, pending table and traces after each frame, whether its table was turned about or not.
func TestWorld(t *testing.T) {
	r := rand.New(rand.NewPCG(11, 9))
	moved := 0
	for _, c := range modules() {
		for _, l := range tables(r, len(c.Parts)) {
			was, is, rep := follows(t, c, l)
			if rep.Moves == 0 {
				continue
			}
			first, turned := sample.Begin(c), sample.Begin(c)
			for range 3 {
				first.Frame(was)
				turned.Frame(is)
				if !first.Same(turned) {
					t.Fatalf("%+v: %s and %s can be told apart", c, short(was), short(is))
				}
			}
			moved++
		}
	}
	if moved < 1000 {
		t.Errorf("no more than %d were turned about", moved)
	}
}

// waits is how many ticks, at most, a value waits until x's To has a tick in which it can read it, played in three frames of the ticks w, one behind the other; false, if one that is sent ahead of the last frame is never read.
func waits(w []int, x api.Chan) (int64, bool) {
	most := 0
	var sent []int
	for at := range 3 * len(w) {
		whose := w[at%len(w)]
		if whose == x.To {
			for _, was := range sent {
				most = max(most, at-was)
			}
			sent = nil
		}
		if whose == x.From && at < 2*len(w) {
			sent = append(sent, at)
		}
	}
	return int64(most), len(sent) == 0
}

// TestInTime: W3: frame behind frame, of a turned table each message can be read within its channel's Late, and each partition has its Budget in each Period.
func TestInTime(t *testing.T) {
	r := rand.New(rand.NewPCG(11, 10))
	late, budgets := 0, 0
	for _, m := range modules() {
		l := tables(r, len(m.Parts))[r.IntN(5)]
		was, why := runs.Of(l)
		if why != api.OK {
			continue
		}
		c := asked(r, m, was)
		_, is, rep := follows(t, c, l)
		if rep.Moves == 0 {
			continue
		}
		w := ticks(is)
		for _, x := range c.Chans {
			if n, read := waits(w, x); x.Late > 0 && (!read || n > x.Late) {
				t.Fatalf("%+v: %s: a value of %+v waits %d, %v", c, short(is), x, n, read)
			}
			late++
		}
		for p, x := range c.Parts {
			for at := 0; x.Budget > 0 && at < len(w); at += int(x.Period) {
				if n := int64(len(sample.Places(w[at:at+int(x.Period)], p))); n < x.Budget {
					t.Fatalf("%+v: %s: %d has %d from %d on", c, short(is), p, n, at)
				}
				budgets++
			}
		}
	}
	if late < 300 || budgets < 100 {
		t.Errorf("no more than %d channels, %d periods", late, budgets)
	}
}

// TestSteps: W5: each pass that counts leaves fewer runs, so that there are no more of them than there were runs.
func TestSteps(t *testing.T) {
	r := rand.New(rand.NewPCG(11, 11))
	for _, c := range modules() {
		l := sample.Tossed(r.IntN, r.IntN(30), len(c.Parts))
		x, n := reduce.Runs(c, l)
		if len(x)+n > len(l) || runs.Switches(x) > runs.Switches(l) || !word.Same(l, x, graph.Depends(c)) {
			t.Fatalf("Runs(%+v, %s): %s, %d", c, short(l), short(x), n)
		}
		if n > 0 && (!runs.Right(x) || !reduce.Stuck(c, x)) {
			t.Fatalf("Runs(%+v, %s): %s is not the end", c, short(l), short(x))
		}
	}
}
