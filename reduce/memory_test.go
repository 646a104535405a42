package reduce_test

import (
	"math/rand/v2"
	"reflect"
	"slices"
	"testing"

	"horarium/api"
	"horarium/fold"
	"horarium/reduce"
	"horarium/runs"
	"horarium/sample"
)

// more are runs that would count for much.
var more = row(0, 9, 1, 9, -1, 9, 5, 9, 2, 1)

// never are partitions and channels that ask for more than there is.
var never = module(slices.Repeat([]api.Part{{Budget: 9, Period: 1, Sched: true}}, 4), ch(0, 1, 1), ch(1, 0, 1), ch(2, 99, 1), ch(-1, 99, 1))

// told is what the calls of a row answer.
type told struct {
	Rows  [][]api.Run
	Is    []bool
	Often int
}

// all is what the calls of l answer; what is none is one and the same.
func all(c api.Config, l []api.Run) told {
	var out told
	tell := func(x []api.Run, is bool) {
		out.Rows, out.Is = append(out.Rows, append([]api.Run{}, x...)), append(out.Is, is)
	}
	for _, pass := range append(reduce.Passes(), reduce.Merge, reduce.Draw) {
		tell(pass(c, l))
	}
	x, n := reduce.Runs(c, l)
	out.Often = n
	tell(x, reduce.Stuck(c, l))
	for _, y := range slices.Concat(out.Rows, [][]api.Run{l}) {
		out.Is = append(out.Is, reduce.Valid(c, l, y), reduce.Valid(c, y, l))
	}
	return out
}

// answer is what Table answers.
type answer struct {
	Nodes []api.Node
	Rep   api.Report
	Why   api.Errno
}

// answered is what Table of l answers; what is none is one and the same.
func answered(c api.Config, l []api.Node) answer {
	got, rep, why := reduce.Table(c, l)
	return answer{append([]api.Node{}, got...), rep, why}
}

// TestNotChanged: R2, R5: what is handed in stays, and its spare room is neither read nor written.
func TestNotChanged(t *testing.T) {
	r := rand.New(rand.NewPCG(11, 12))
	for _, m := range modules() {
		row := sample.Tossed(r.IntN, r.IntN(12), len(m.Parts))
		c := asked(r, m, row)
		in, l := sample.RoomyModule(c, never), roomy(row, more)
		inWas, lWas := sample.WholeModule(in), slices.Clone(whole(l))
		if !reflect.DeepEqual(all(in, l), all(c, row)) {
			t.Errorf("%+v, %s: an answer hangs on the room behind them", c, short(row))
		}
		// What is cut off, though it stands in the room still, is not there.
		for _, half := range [][]api.Run{l[:len(l)/2], l[len(l)/2:], l[:0]} {
			if !reflect.DeepEqual(all(in, half), all(c, slices.Clone(half))) {
				t.Errorf("%+v, %s: an answer hangs on what was cut off", c, short(half))
			}
		}
		if !reflect.DeepEqual(sample.WholeModule(in), inWas) || !slices.Equal(whole(l), lWas) {
			t.Errorf("%+v or %s was changed", c, short(row))
		}
	}
}

// TestTableNotChanged: the same of Table.
func TestTableNotChanged(t *testing.T) {
	r := rand.New(rand.NewPCG(11, 13))
	for _, m := range modules() {
		for _, table := range tables(r, len(m.Parts)) {
			was, _ := runs.Of(table)
			c := asked(r, m, was)
			in, l := sample.RoomyModule(c, never), sample.Roomy(table, seq(a, b, dot))
			inWas, lWas := sample.WholeModule(in), slices.Clone(sample.Whole(l))
			want := answered(c, table)
			if !reflect.DeepEqual(answered(in, l), want) || !reflect.DeepEqual(answered(in, l[:len(l)/2]), answered(c, slices.Clone(table[:len(table)/2]))) {
				t.Errorf("%+v, %s: an answer hangs on the room behind them", c, nodes(table))
			}
			if !reflect.DeepEqual(sample.WholeModule(in), inWas) || !slices.Equal(sample.Whole(l), lWas) {
				t.Errorf("%+v or %s was changed", c, nodes(table))
			}
		}
	}
}

// TestNotKept: R2: an answer shares no memory with another one, spare room included, and nothing is kept of what was handed in.
func TestNotKept(t *testing.T) {
	rows := append(sample.Rows()[:120], spelt("ab"), spelt("aab"), spelt("aba"), row(0, 1), row(1, 0))
	calls := append(reduce.Passes(), reduce.Merge, reduce.Draw, func(c api.Config, l []api.Run) ([]api.Run, bool) {
		x, n := reduce.Runs(c, l)
		return x, n > 0
	})
	for _, c := range []api.Config{free(3), module(make([]api.Part, 3), ch(0, 1, 0), ch(1, 2, 0), ch(0, 2, 0)), never} {
		for _, row := range rows {
			for at, call := range calls {
				l := roomy(row, more)
				was := slices.Clone(whole(l))
				first, _ := call(c, l)
				second, is := call(c, l)
				want := slices.Clone(whole(second))
				for i := range whole(first) {
					whole(first)[i] = api.Run{Part: 3, N: -9}
				}
				if !slices.Equal(whole(second), want) || !slices.Equal(whole(l), was) {
					t.Fatalf("call %d of %s hangs on another answer", at, short(row))
				}
				clear(whole(l))
				if !slices.Equal(whole(second), want) {
					t.Fatalf("call %d of %s hangs on its argument still", at, short(row))
				}
				copy(whole(l), was)
				makes(t, "call", call, c, l, second, is)
			}
		}
	}
}

// TestTableNotKept: the same of Table: turned about, folded, kept, as it was.
func TestTableNotKept(t *testing.T) {
	c := module(make([]api.Part, 3), ch(0, 1, 0))
	for _, table := range append(sample.Tables()[:60], a, dot, seq(a, b, a, b), times(2, seq(dot, a, b)), times(8, seq(a, b, a)), times(3, seq(a, b)), fold.Plain(spelt("cacbcac")), seq(a, b, a, b, a, b)) {
		l := sample.Roomy(table, seq(a, b))
		was := slices.Clone(sample.Whole(l))
		first, _, _ := reduce.Table(c, l)
		second, rep, why := reduce.Table(c, l)
		want := slices.Clone(sample.Whole(second))
		for i := range sample.Whole(first) {
			sample.Whole(first)[i] = api.Node{Kind: api.Idle, N: 9}
		}
		if !slices.Equal(sample.Whole(second), want) || !slices.Equal(sample.Whole(l), was) {
			t.Fatalf("Table of %s hangs on another answer", nodes(table))
		}
		clear(sample.Whole(l))
		if !slices.Equal(sample.Whole(second), want) {
			t.Fatalf("Table of %s hangs on its argument still", nodes(table))
		}
		if len(table) > 0 {
			_, no := runs.Of(l)
			tells(t, c, l, nil, api.Report{}, no)
		}
		copy(sample.Whole(l), was)
		tells(t, c, l, second, rep, why)
	}
}

// TestAnew: R2, R4: nothing is kept: other content in the same memory is judged anew, and nil and empty mean the same.
func TestAnew(t *testing.T) {
	l, c := spelt("abacb"), module(make([]api.Part, 3), ch(0, 1, 0))
	for range 3 {
		draws(t, c, l, spelt("abacb"), false)
		c.Chans[0].To = 2
		draws(t, c, l, row(0, 2, 1, 1, 2, 1, 1, 1), true)
		c.Chans[0].To = 1
		l[1].Part = 2
		draws(t, c, l, row(0, 2, 2, 2, 1, 1), true)
		l[1].Part = 1
		c.Parts[1].Budget, c.Parts[1].Period = 1, 1
		valids(t, c, l, l, false)
		c.Parts[1] = api.Part{}
		valids(t, c, l, l, true)
	}
	some := []api.Config{{}, {Parts: []api.Part{}, Chans: []api.Chan{}}, {Tables: [][]api.Node{nil, {{}}}}}
	for _, none := range [][]api.Run{nil, {}, roomy(nil, more)} {
		for _, c := range append(some, never) {
			agree(t, c, none)
		}
	}
	for _, l := range sample.Rows()[:80] {
		want := all(api.Config{}, l)
		for _, c := range some {
			if !reflect.DeepEqual(all(c, l), want) {
				t.Fatalf("%s: nil and empty are not the same", short(l))
			}
		}
	}
	for _, l := range [][]api.Node{nil, {}, sample.Roomy(nil, a)} {
		for _, c := range append(some, never) {
			tells(t, c, l, nil, api.Report{}, api.ErrForm)
		}
	}
}

// TestFar: R1: rows of any Parts and ticks, modules that ask for anything.
func TestFar(t *testing.T) {
	numbers := append(odd(), -1, 0, 1)
	for _, n := range numbers {
		for _, k := range numbers {
			for _, l := range [][]api.Run{row(n, k, k, n, n, greatest, -1, k, 0, least, n, 1, k, greatest), row(0, n, 1, k, 0, n, -1, 1, 0, 1), row(0, 1, n, 1, 0, 1, k, 1, n, 1, -1, 1, 0, 1), row(n, greatest, n, greatest)} {
				for _, c := range []api.Config{module(nil, ch(int(n), int(k), 1)), module([]api.Part{part(n, k), part(0, n)}, ch(0, 1, n), ch(1, int(k), n)), module([]api.Part{part(k, 7), {Sched: true}, {Sched: true}}, ch(0, 2, k)), free(9), module(slices.Repeat([]api.Part{{Sched: true}}, 9), ch(7, 8, 0))} {
					plainly(t, c, l)
				}
			}
			for _, x := range [][]api.Node{window(int(n), k), seq(window(int(n), 1), idle(k)), times(n, times(k, a)), times(k, window(int(n), n))} {
				_, why := runs.Of(x)
				if got, _, no := reduce.Table(api.Config{}, x); no != why || why != api.OK && len(got) > 0 {
					t.Fatalf("Table of %v: %d, want %d", x, int(no), int(why))
				}
			}
		}
	}
	// Parts that are MaxParts and more, and that the module has: those that have to do with each other still have.
	c := module(make([]api.Part, 9), ch(7, 8, 0))
	draws(t, c, row(7, 1, 8, 1, 7, 1), row(7, 1, 8, 1, 7, 1), false)
	draws(t, c, row(7, 1, 6, 1, 7, 1), row(7, 2, 6, 1), true)
	draws(t, c, row(7, 1, 9, 1, 7, 1), row(7, 2, 9, 1), true)
	ends(t, c, row(7, 1, 6, 1, 7, 1), row(7, 1, 6, 1, 7, 1), 0)
}

// TestMany: R1: a great many runs, partitions and channels.
func TestMany(t *testing.T) {
	const many = 1 << 18
	l := slices.Repeat(spelt("ab.c"), many)
	makes(t, "Merge", reduce.Merge, free(3), l, l, false)
	draws(t, free(3), l, slices.Concat(row(0, 2, 1, 1, -1, 1, 2, 1, 1, 1, -1, 1, 2, 1), l[8:]), true)
	ends(t, free(3), l, l, 0)
	valids(t, free(3), l, l, false)
	long := slices.Repeat(spelt("a"), many)
	makes(t, "Merge", reduce.Merge, free(3), long, row(0, many), true)
	ends(t, free(3), long, long, 0)
	valids(t, module(make([]api.Part, 3)), slices.Concat(long[:4096], slices.Repeat(row(1, 0), many)), row(0, 4096), true)
	// As many partitions as Depends has no room for.
	c := module(make([]api.Part, 1<<20), slices.Repeat([]api.Chan{ch(1, 2, 0)}, 99)...)
	draws(t, c, spelt("abcba"), row(0, 2, 1, 1, 2, 1, 1, 1), true)
	ends(t, c, spelt("abcba"), row(0, 2, 1, 1, 2, 1, 1, 1), 1)
	valids(t, c, spelt("abc"), spelt("bca"), true)
	valids(t, c, spelt("abc"), spelt("acb"), false)
	tells(t, c, seq(a, b, dot, a), seq(window(0, 2), b, dot), api.Report{Moves: 1, Runs: 3, Was: 4, Nodes: 4, WasNode: 5}, api.OK)
	c.Chans[98] = ch(1, 0, 0)
	draws(t, c, spelt("abcba"), spelt("abcba"), false)
	valids(t, c, spelt("abc"), spelt("bca"), false)
	draws(t, c, row(1<<20-1, 1, 1<<19, 1, 1<<20-1, 1), row(1<<20-1, 2, 1<<19, 1), true)
	c.Parts[1<<20-1], c.Parts[1<<19] = api.Part{Sched: true}, api.Part{Sched: true}
	draws(t, c, row(1<<20-1, 1, 1<<19, 1, 1<<20-1, 1), row(1<<20-1, 1, 1<<19, 1, 1<<20-1, 1), false)
}
