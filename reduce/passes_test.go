package reduce_test

import (
	"math/rand/v2"
	"slices"
	"testing"

	"horarium/api"
	"horarium/bound"
	"horarium/reduce"
	"horarium/runs"
	"horarium/sample"
)

// TestMerge: rows, and what is made of them; true only of another row.
func TestMerge(t *testing.T) {
	for _, x := range []struct {
		l, want []api.Run
		is      bool
	}{
		// Tidy ones.
		{nil, nil, false}, {row(0, 1), row(0, 1), false}, {row(-1, 9), row(-1, 9), false}, {spelt("abab"), spelt("abab"), false}, {spelt("a.a."), spelt("a.a."), false}, {row(0, 5000, 1, greatest), row(0, 5000, 1, greatest), false}, {row(9, 1, -7, 2), row(9, 1, -7, 2), false},
		// Runs side by side of one.
		{spelt("aa"), row(0, 2), true}, {spelt("..."), row(-1, 3), true}, {row(0, 2, 0, 3, 1, 1), row(0, 5, 1, 1), true}, {row(1, 1, 0, 2, 0, 3), row(1, 1, 0, 5), true}, {row(9, 1, 9, 2), row(9, 3), true}, {spelt("abba"), row(0, 1, 1, 2, 0, 1), true}, {spelt("a..b"), row(0, 1, -1, 2, 1, 1), true},
		// Of no ticks, of less: at the ends, alone, between.
		{row(0, 0), nil, true}, {row(0, -3), nil, true}, {row(-1, 0, 2, least), nil, true}, {row(0, 0, 1, 1), row(1, 1), true}, {row(1, 1, 0, -1), row(1, 1), true}, {row(0, 1, 1, 0, 2, 1), row(0, 1, 2, 1), true}, {row(0, 1, 1, -2, 0, 4), row(0, 5), true}, {row(-1, 1, 1, 0, -1, 4), row(-1, 5), true}, {row(0, 1, -1, 0, 1, 1), spelt("ab"), true},
		// Held.
		{row(0, greatest, 0, greatest), row(0, greatest), true}, {row(0, 1<<62, 1, 0, 0, 1<<62), row(0, greatest), true}, {row(0, greatest, 1, 1, 0, 1), row(0, greatest, 1, 1, 0, 1), false},
		// As many as may be, and more.
		{slices.Repeat(spelt("a"), 96), row(0, 96), true}, {slices.Repeat(spelt("ab"), 48), slices.Repeat(spelt("ab"), 48), false}, {slices.Repeat(spelt("ab"), 900), slices.Repeat(spelt("ab"), 900), false}, {slices.Repeat(spelt("a"), 5000), row(0, 5000), true},
	} {
		// Nothing that is asked of the module matters here.
		for _, c := range []api.Config{{}, free(3), module([]api.Part{part(9, 1), {Sched: true}, {Sched: true}}, ch(0, 1, 1), ch(0, 99, 1))} {
			makes(t, "Merge", reduce.Merge, c, x.l, x.want, x.is)
			makes(t, "the first pass", reduce.Passes()[0], c, x.l, x.want, x.is)
		}
	}
}

// TestDraw: rows of which nothing is asked, and what the first move makes of them.
func TestDraw(t *testing.T) {
	for _, x := range []struct {
		l, want []api.Run
		is      bool
		chans   []api.Chan
	}{
		{nil, nil, false, nil}, {row(0, 1), row(0, 1), false, nil}, {row(-1, 4), row(-1, 4), false, nil}, {row(0, 0), row(0, 0), false, nil}, {spelt("ab.c"), spelt("ab.c"), false, nil}, {row(0, 2, 1, 0, 2, -1), row(0, 2, 1, 0, 2, -1), false, nil},
		// The least I first, to the left.
		{spelt("aba"), row(0, 2, 1, 1), true, nil}, {spelt("abab"), row(0, 2, 1, 2), true, nil}, {spelt("baab"), row(1, 2, 0, 2), true, nil}, {spelt("aa"), row(0, 2), true, nil}, {spelt("aab"), row(0, 2, 1, 1), true, nil}, {spelt("c.a.b.a"), row(2, 1, -1, 2, 0, 1, 1, 1, -1, 1, 0, 1), true, nil}, {spelt("..."), row(-1, 3), true, nil}, {row(-1, 1, 0, 2, -1, 3), row(-1, 4, 0, 2), true, nil},
		// Of runs of no ticks, of less.
		{row(0, 1, 1, 1, 0, 0), row(0, 1, 1, 1), true, nil}, {row(0, 0, 1, 1, 0, 2), row(0, 2, 1, 1), true, nil}, {row(0, 0, 0, -1), nil, true, nil}, {row(0, 1, 1, -1, 0, 1), row(0, 2), true, nil}, {row(0, 1, 1, 0, 0, 1), row(0, 1, 1, 0, 0, 1), false, []api.Chan{ch(0, 1, 0)}},
		// Where somebody can tell the first ones, another one.
		{spelt("aba"), spelt("aba"), false, []api.Chan{ch(0, 1, 0)}}, {spelt("aba"), spelt("aba"), false, []api.Chan{ch(1, 0, 0)}}, {spelt("aba"), row(0, 2, 1, 1), true, []api.Chan{ch(0, 2, 0), ch(2, 1, 0)}}, {spelt("abcba"), row(0, 1, 1, 2, 2, 1, 0, 1), true, []api.Chan{ch(0, 1, 0)}}, {spelt("abacba"), spelt("abacba"), false, []api.Chan{ch(0, 1, 0), ch(1, 2, 0), ch(2, 0, 0)}}, {spelt("aba.a"), row(0, 1, 1, 1, 0, 2, -1, 1), true, []api.Chan{ch(0, 1, 0)}}, {spelt(".ab.ab"), row(-1, 2, 0, 1, 1, 1, 0, 1, 1, 1), true, []api.Chan{ch(0, 1, 0)}},
	} {
		c := module(make([]api.Part, 3), x.chans...)
		draws(t, c, x.l, x.want, x.is)
		agree(t, c, x.l)
	}
}

// TestDrawLate: the first move that fits, where those ahead of it do not for what is asked of channels.
func TestDrawLate(t *testing.T) {
	l := spelt("c.acb.")
	// In this order: cc.ab., .accb., c..acb, cacb.. .
	moved := [][]api.Run{row(2, 2, -1, 1, 0, 1, 1, 1, -1, 1), row(-1, 1, 0, 1, 2, 2, 1, 1, -1, 1), row(2, 1, -1, 2, 0, 1, 2, 1, 1, 1), row(2, 1, 0, 1, 2, 1, 1, 1, -1, 2)}
	for _, x := range []struct {
		chans []api.Chan
		at    int
	}{
		{nil, 0}, {[]api.Chan{ch(0, 1, 1)}, 0}, {[]api.Chan{ch(1, 0, 5)}, 0}, {[]api.Chan{ch(0, 1, 0), ch(1, 0, -1)}, 0},
		{[]api.Chan{ch(1, 0, 3)}, 1}, {[]api.Chan{ch(1, 0, 4), ch(0, 1, 3)}, 1}, {[]api.Chan{ch(0, 1, 3), ch(1, 0, 3)}, 1},
		{[]api.Chan{ch(0, 1, 2), ch(1, 0, 4)}, 2}, {[]api.Chan{ch(1, 0, 4), ch(0, 1, 2), ch(2, 1, 5)}, 2},
		{[]api.Chan{ch(0, 1, 2), ch(1, 0, 4), ch(2, 1, 3)}, 3}, {[]api.Chan{ch(2, 1, 4), ch(0, 1, 2), ch(1, 0, 4)}, 3},
		// None: for they do not fit together, for none to read, for more is asked than any gives.
		{[]api.Chan{ch(0, 1, 1), ch(1, 0, 3)}, -1}, {[]api.Chan{ch(0, 1, 2), ch(1, 0, 3)}, -1}, {[]api.Chan{ch(0, 9, greatest)}, -1}, {[]api.Chan{ch(1, 0, 2)}, -1}, {[]api.Chan{ch(0, 1, 2), ch(1, 0, 4), ch(2, 1, 2)}, -1},
	} {
		c := module(make([]api.Part, 3), x.chans...)
		if x.at < 0 {
			draws(t, c, l, l, false)
		} else {
			draws(t, c, l, moved[x.at], true)
		}
		agree(t, c, l)
	}
}

// TestDrawShort: the same for what is asked of budgets.
func TestDrawShort(t *testing.T) {
	l := spelt("ab.ab.")
	// In this order: aab.b., b.aab., abb.a., a.abb., ab..ab, abab.. .
	moved := [][]api.Run{row(0, 2, 1, 1, -1, 1, 1, 1, -1, 1), row(1, 1, -1, 1, 0, 2, 1, 1, -1, 1), row(0, 1, 1, 2, -1, 1, 0, 1, -1, 1), row(0, 1, -1, 1, 0, 1, 1, 2, -1, 1), row(0, 1, 1, 1, -1, 2, 0, 1, 1, 1), row(0, 1, 1, 1, 0, 1, 1, 1, -1, 2)}
	sched := func(budget, period int64) api.Part {
		return api.Part{Budget: budget, Period: period, Sched: true}
	}
	for _, x := range []struct {
		parts []api.Part
		at    int
	}{
		{make([]api.Part, 2), 0}, {[]api.Part{part(2, 6), part(2, 6)}, 0}, {[]api.Part{part(0, 2), part(-1, 3)}, 0}, {[]api.Part{{}, part(1, 3)}, 0},
		{[]api.Part{part(1, 3)}, 1}, {[]api.Part{part(1, 3), part(1, 3)}, 1},
		// Both change the table, so the runs of neither go by the other's.
		{[]api.Part{sched(0, 0), sched(0, 0)}, 4}, {[]api.Part{sched(1, 3), sched(1, 3)}, 4}, {[]api.Part{sched(2, 6), sched(2, 6)}, 4},
		// None: more than there is, no whole periods, a partition without ticks.
		{[]api.Part{part(3, 6)}, -1}, {[]api.Part{part(1, 2)}, -1}, {[]api.Part{part(1, 4)}, -1}, {[]api.Part{part(1, 0)}, -1}, {[]api.Part{{}, {}, part(1, 6)}, -1}, {[]api.Part{part(2, 3), part(1, 3)}, -1},
	} {
		c := module(x.parts)
		if x.at < 0 {
			draws(t, c, l, l, false)
		} else {
			draws(t, c, l, moved[x.at], true)
		}
		agree(t, c, l)
	}
	// Of the idle ones alone, of which the one to the left does not fit.
	l = spelt(".ab.ab")
	for _, x := range []struct {
		budget int64
		want   []api.Run
		is     bool
	}{
		{0, row(-1, 2, 0, 1, 1, 1, 0, 1, 1, 1), true}, {1, row(0, 1, 1, 1, -1, 2, 0, 1, 1, 1), true}, {2, l, false},
	} {
		draws(t, module([]api.Part{sched(x.budget, 3), sched(x.budget, 3)}), l, x.want, x.is)
	}
}

// TestStuckNot: Stuck asks what a move would make, not the row as it is.
func TestStuckNot(t *testing.T) {
	late := module(make([]api.Part, 2), ch(0, 1, 3))
	l := spelt("a.a.b")
	if bound.Holds(late, l) != api.ErrLate || reduce.Stuck(late, l) {
		t.Errorf("%s can come to hold", short(l))
	}
	draws(t, late, l, row(-1, 1, 0, 2, -1, 1, 1, 1), true)
	for _, c := range []api.Config{{}, free(3), late} {
		for _, l := range [][]api.Run{nil, {}, row(0, 4), row(-1, 4), row(1, 0), spelt("a.b"), row(0, 4096, 1, 4096)} {
			draws(t, c, l, l, false)
		}
	}
}

// TestPasses: Merge, then Draw, whatever is done to what an earlier call told.
func TestPasses(t *testing.T) {
	r := rand.New(rand.NewPCG(11, 1))
	never := func(api.Config, []api.Run) ([]api.Run, bool) { return nil, false }
	for _, c := range modules()[:500] {
		l := sample.Tossed(r.IntN, r.IntN(12), len(c.Parts))
		c = asked(r, c, l)
		first, second := reduce.Passes(), reduce.Passes()
		if len(first) != 2 || len(second) != 2 {
			t.Fatalf("%d, %d passes", len(first), len(second))
		}
		for at, name := range []string{"Merge", "Draw"} {
			want, is := []reduce.Pass{reduce.Merge, reduce.Draw}[at](c, l)
			makes(t, "pass "+name, first[at], c, l, want, is)
			for i := range sample.Whole(first) {
				sample.Whole(first)[i] = never
			}
			makes(t, "pass "+name, second[at], c, l, want, is)
			makes(t, "pass "+name, reduce.Passes()[at], c, l, want, is)
			makes(t, name, []reduce.Pass{reduce.Merge, reduce.Draw}[at], c, l, want, is)
			first = reduce.Passes()
		}
		x, n := end(c, l)
		clear(first)
		ends(t, c, l, x, n)
	}
}

// TestRows: all calls, of each row of few runs of all kinds, and of drawn ones, by modules of all kinds.
func TestRows(t *testing.T) {
	r := rand.New(rand.NewPCG(11, 2))
	some := []api.Config{{}, free(2), free(3), module(make([]api.Part, 3), ch(0, 1, 0)), module(make([]api.Part, 3), ch(0, 1, 2), ch(1, 2, 3)), module([]api.Part{{Sched: true}, {Stop: true}, {Sched: true}}), module([]api.Part{part(1, 2), part(1, 3)}), module([]api.Part{part(1, 4)}, ch(1, 0, 2))}
	for _, l := range sample.Each(row(-1, 1, -1, 0, 0, 2, 0, -1, 1, 1, 2, 0, 2, 3, 6, 1), 3) {
		for _, c := range some {
			agree(t, c, l)
		}
	}
	for _, s := range sample.Each([]byte(".abc"), 5) {
		for _, c := range some {
			agree(t, c, spelt(string(s)))
		}
	}
	drawn := sample.Modules(api.MaxParts)
	for i, l := range sample.Rows() {
		for k := range 4 {
			agree(t, asked(r, drawn[i*7+k], l), l)
		}
		agree(t, some[i%len(some)], l)
		agree(t, asked(r, some[i%len(some)], l), runs.Tidy(l))
	}
}

// TestDrawn: drawn modules of which about as much is asked as rows give: all calls, of rows of which some hold, others do not, some are stuck, others are drawn.
func TestDrawn(t *testing.T) {
	r := rand.New(rand.NewPCG(11, 3))
	held, stuck, not, passes := 0, 0, 0, 0
	for _, c := range modules() {
		l := sample.Tossed(r.IntN, r.IntN(14), len(c.Parts))
		c = asked(r, c, l)
		agree(t, c, l)
		_, n := reduce.Runs(c, l)
		passes += n
		if bound.Holds(c, l) == api.OK {
			held++
		}
		if _, ok := reduce.Merge(c, l); ok && n == 0 {
			not++
		}
		if reduce.Stuck(c, l) {
			stuck++
		}
	}
	if held < 1000 || stuck < 300 || not < 30 || passes < 3000 {
		t.Errorf("no more than %d that hold, %d that are stuck, %d of which Merge is let go, %d passes", held, stuck, not, passes)
	}
}

// TestFrames: rows as long as a frame may be, as they are and tidy.
func TestFrames(t *testing.T) {
	r := rand.New(rand.NewPCG(11, 4))
	drawn := sample.Modules(api.MaxParts)
	for i, l := range sample.Frames() {
		for _, c := range []api.Config{free(6), asked(r, drawn[i*31], l), asked(r, module(make([]api.Part, 6), ch(0, 1, 0), ch(2, 3, 0)), l)} {
			agree(t, c, l)
			agree(t, c, runs.Tidy(l))
		}
	}
}
