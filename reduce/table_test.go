package reduce_test

import (
	"math/rand/v2"
	"slices"
	"testing"

	"horarium/api"
	"horarium/fold"
	"horarium/reduce"
	"horarium/runs"
	"horarium/sample"
)

// The leaves of a letter each.
var a, b, c, dot = window(0, 1), window(1, 1), window(2, 1), idle(1)

// TestTable: tables, what they are turned and folded to, and each number of the Report.
func TestTable(t *testing.T) {
	tied := []api.Chan{ch(0, 1, 0)}
	late := func(n int64) []api.Chan { return []api.Chan{ch(0, 1, n)} }
	for _, x := range []struct {
		l, want []api.Node
		r       api.Report
		chans   []api.Chan
	}{
		// One leaf.
		{a, a, api.Report{Runs: 1, Was: 1, Nodes: 1, WasNode: 1}, nil}, {idle(4096), idle(4096), api.Report{Runs: 1, Was: 1, Nodes: 1, WasNode: 1}, nil}, {seq(a), a, api.Report{Runs: 1, Was: 1, Nodes: 1, WasNode: 2}, nil}, {times(1, idle(3)), idle(3), api.Report{Runs: 1, Was: 1, Nodes: 1, WasNode: 2}, nil}, {times(9, window(5, 2)), window(5, 18), api.Report{Runs: 1, Was: 1, Nodes: 1, WasNode: 2}, nil}, {seq(a, window(0, 4)), window(0, 5), api.Report{Runs: 1, Was: 1, Nodes: 1, WasNode: 3}, nil},
		// Nothing is turned about, nothing folded.
		{seq(a, b), seq(a, b), api.Report{Runs: 2, Was: 2, Nodes: 3, WasNode: 3}, nil}, {seq(a, b, a, b), seq(a, b, a, b), api.Report{Runs: 4, Was: 4, Nodes: 5, WasNode: 5}, tied}, {times(3, seq(a, b)), times(3, seq(a, b)), api.Report{Runs: 6, Was: 6, Nodes: 4, WasNode: 4}, tied},
		// Folded alone, or leaves put together.
		{seq(a, b, a, b, a, b), times(3, seq(a, b)), api.Report{Runs: 6, Was: 6, Nodes: 4, WasNode: 7}, tied}, {seq(a, a, b, b, b), seq(window(0, 2), window(1, 3)), api.Report{Runs: 2, Was: 2, Nodes: 3, WasNode: 6}, tied}, {seq(times(2, a), seq(seq(b), b)), seq(window(0, 2), window(1, 2)), api.Report{Runs: 2, Was: 2, Nodes: 3, WasNode: 7}, tied},
		// Turned about.
		{seq(a, b, a), seq(window(0, 2), b), api.Report{Moves: 1, Runs: 2, Was: 3, Nodes: 3, WasNode: 4}, nil}, {seq(c, a, c, b), seq(window(2, 2), a, b), api.Report{Moves: 1, Runs: 3, Was: 4, Nodes: 4, WasNode: 5}, tied}, {seq(c, a, c, b, c), seq(window(2, 3), a, b), api.Report{Moves: 2, Runs: 3, Was: 5, Nodes: 4, WasNode: 6}, tied}, {times(2, seq(a, b)), seq(window(0, 2), window(1, 2)), api.Report{Moves: 1, Runs: 2, Was: 4, Nodes: 3, WasNode: 4}, nil}, {times(48, seq(a, b)), seq(window(0, 48), window(1, 48)), api.Report{Moves: 47, Runs: 2, Was: 96, Nodes: 3, WasNode: 4}, nil}, {seq(a, dot, c, a, dot, c), seq(window(0, 2), idle(2), window(2, 2)), api.Report{Moves: 2, Runs: 3, Was: 6, Nodes: 4, WasNode: 7}, tied},
		// Both.
		{seq(a, b, c, a, b, c, a, b), seq(a, b, window(2, 2), a, b, a, b), api.Report{Moves: 1, Runs: 7, Was: 8, Nodes: 8, WasNode: 9}, tied}, {seq(a, b, c, a, b, a, b, c), seq(a, b, window(2, 2), a, b, a, b), api.Report{Moves: 1, Runs: 7, Was: 8, Nodes: 8, WasNode: 9}, tied}, {seq(c, a, b, a, b, a, b, c), seq(window(2, 2), times(3, seq(a, b))), api.Report{Moves: 1, Runs: 7, Was: 8, Nodes: 6, WasNode: 9}, tied},
		// As many nodes: what is turned about, not what was.
		{times(1, times(2, seq(dot, a, b))), seq(idle(2), a, b, a, b), api.Report{Moves: 1, Runs: 5, Was: 6, Nodes: 6, WasNode: 6}, tied}, {times(2, seq(a, dot, seq(b))), seq(a, idle(2), b, a, b), api.Report{Moves: 1, Runs: 5, Was: 6, Nodes: 6, WasNode: 6}, tied},
		// Fewer nodes as it was: it is kept, the numbers with it.
		{times(2, seq(dot, a, b)), times(2, seq(dot, a, b)), api.Report{Runs: 6, Was: 6, Nodes: 5, WasNode: 5, Kept: true}, tied}, {times(3, seq(a, dot, b)), times(3, seq(a, dot, b)), api.Report{Runs: 9, Was: 9, Nodes: 5, WasNode: 5, Kept: true}, tied},
		// So it is where no move was made, and yet it folds worse.
		{times(8, seq(a, b, a)), times(8, seq(a, b, a)), api.Report{Runs: 17, Was: 17, Nodes: 5, WasNode: 5, Kept: true}, tied},
		// What is asked holds moves back.
		{seq(c, a, c, b), seq(window(2, 2), a, b), api.Report{Moves: 1, Runs: 3, Was: 4, Nodes: 4, WasNode: 5}, late(2)}, {seq(a, c, b, c), seq(a, window(2, 2), b), api.Report{Moves: 1, Runs: 3, Was: 4, Nodes: 4, WasNode: 5}, late(3)}, {seq(a, c, b, c), seq(a, b, window(2, 2)), api.Report{Moves: 1, Runs: 3, Was: 4, Nodes: 4, WasNode: 5}, late(2)}, {seq(a, dot, b, dot), seq(a, b, idle(2)), api.Report{Moves: 1, Runs: 3, Was: 4, Nodes: 4, WasNode: 5}, late(2)}, {seq(a, dot, b, dot), seq(a, dot, b, dot), api.Report{Runs: 4, Was: 4, Nodes: 5, WasNode: 5}, []api.Chan{ch(0, 1, 2), ch(1, 0, 2)}},
	} {
		m := module(make([]api.Part, 3), x.chans...)
		tells(t, m, x.l, x.want, x.r, api.OK)
		tabled(t, m, x.l)
	}
}

// TestRefused: P11.2: what runs.Of refuses, whatever is asked; what does not hold, though a move may bring it to.
func TestRefused(t *testing.T) {
	no := api.Report{}
	never := module([]api.Part{part(9, 1)}, ch(0, 99, 1))
	for _, x := range []struct {
		l   []api.Node
		why api.Errno
	}{
		{nil, api.ErrForm}, {[]api.Node{}, api.ErrForm}, {seq(a, b)[:2], api.ErrForm}, {append(seq(a, b), a...), api.ErrForm}, {window(6, 1), api.ErrForm}, {window(-1, 1), api.ErrForm}, {window(0, 0), api.ErrForm}, {idle(-3), api.ErrForm}, {times(0, a), api.ErrForm}, {seq(), api.ErrForm}, {[]api.Node{{Kind: 9, N: 1}}, api.ErrForm},
		{sample.Wide(128, a), api.ErrLong}, {slices.Repeat(a, 129), api.ErrLong}, {seq(times(48, seq(a, b)), a), api.ErrLong}, {times(49, seq(a, b)), api.ErrLong}, {times(2048, seq(a, dot)), api.ErrLong},
		{sample.Chain(16, 1, a), api.ErrDeep}, {sample.Chain(16, 1, window(0, 4097)), api.ErrDeep}, {window(0, 4097), api.ErrTable}, {idle(greatest), api.ErrTable}, {times(1<<62, a), api.ErrTable}, {seq(window(0, 4096), a), api.ErrTable},
	} {
		for _, m := range []api.Config{{}, free(2), never, module(make([]api.Part, 2), ch(0, 1, 1))} {
			tells(t, m, x.l, nil, no, x.why)
			tabled(t, m, x.l)
		}
	}
	for _, x := range []struct {
		l     []api.Node
		parts []api.Part
		chans []api.Chan
		why   api.Errno
	}{
		{seq(a, c, b, c), make([]api.Part, 3), []api.Chan{ch(0, 1, 1)}, api.ErrLate}, {seq(a, c, b, c), make([]api.Part, 3), []api.Chan{ch(0, 1, 2)}, api.OK}, {a, nil, []api.Chan{ch(0, 1, greatest)}, api.ErrLate}, {a, nil, []api.Chan{ch(1, 0, 1)}, api.OK}, {times(2, seq(a, dot)), nil, []api.Chan{ch(0, 0, 1)}, api.ErrLate}, {seq(a, b), nil, []api.Chan{ch(0, 1, 1), ch(1, 0, 1), ch(1, 1, 1)}, api.ErrLate},
		{seq(a, b, a, dot), []api.Part{part(1, 2), part(1, 4)}, nil, api.OK}, {seq(a, b, a, dot), []api.Part{part(1, 2), part(2, 4)}, nil, api.ErrShort}, {seq(a, b, a, dot), []api.Part{part(1, 3)}, nil, api.ErrShort}, {a, []api.Part{part(1, 1)}, nil, api.OK}, {a, []api.Part{part(2, 1)}, nil, api.ErrShort}, {seq(a, dot, b, b, dot, a), []api.Part{{}, part(1, 2)}, nil, api.ErrShort},
		{seq(a, c, b, c), []api.Part{part(2, 4), {}, {}}, []api.Chan{ch(0, 1, 1)}, api.ErrLate}, {seq(a, c, b, c), []api.Part{part(2, 4), {}, {}}, []api.Chan{ch(0, 1, 2)}, api.ErrShort}, {seq(a, b), never.Parts, never.Chans, api.ErrLate}, {seq(a, b), never.Parts, nil, api.ErrShort},
	} {
		m := module(x.parts, x.chans...)
		if x.why != api.OK {
			tells(t, m, x.l, nil, no, x.why)
		}
		if _, _, why := tabled(t, m, x.l); why != x.why {
			t.Errorf("%+v, %v: %d, want %d", m, x.l, int(why), int(x.why))
		}
	}
}

// TestLimits: tables as long, as deep, of as many ticks and runs as may be.
func TestLimits(t *testing.T) {
	tied := module(make([]api.Part, 2), ch(0, 1, 0))
	tells(t, tied, sample.Wide(127, a), window(0, 127), api.Report{Runs: 1, Was: 1, Nodes: 1, WasNode: 128}, api.OK)
	tells(t, tied, sample.Chain(15, 1, a), a, api.Report{Runs: 1, Was: 1, Nodes: 1, WasNode: 16}, api.OK)
	tells(t, tied, times(4096, a), window(0, 4096), api.Report{Runs: 1, Was: 1, Nodes: 1, WasNode: 2}, api.OK)
	tells(t, tied, times(48, seq(a, b)), times(48, seq(a, b)), api.Report{Runs: 96, Was: 96, Nodes: 4, WasNode: 4}, api.OK)
	tells(t, tied, times(48, seq(window(0, 42), window(1, 43))), times(48, seq(window(0, 42), window(1, 43))), api.Report{Runs: 96, Was: 96, Nodes: 4, WasNode: 4}, api.OK)
	for _, l := range sample.Frames() {
		for _, m := range []api.Config{tied, free(6), module(make([]api.Part, 6), ch(0, 1, 0), ch(1, 2, 0), ch(3, 4, 0), ch(4, 5, 0))} {
			tabled(t, m, fold.Plain(l))
			tabled(t, m, fold.Table(l))
		}
	}
}

// tables are such as lead to a frame of n partitions: rows that come again and others, folded, plain, and folded behind Tidy.
func tables(r *rand.Rand, n int) [][]api.Node {
	l := slices.Repeat(sample.Tossed(r.IntN, 1+r.IntN(6), n), 1+r.IntN(5))
	l = append(l, sample.Tossed(r.IntN, r.IntN(4), n)...)
	part := runs.Tidy(sample.Tossed(r.IntN, 1+r.IntN(5), n))
	return [][]api.Node{fold.Plain(l), fold.Table(l), fold.Table(runs.Tidy(l)), times(1+r.Int64N(6), fold.Plain(part)), times(1+r.Int64N(3), times(1+r.Int64N(3), fold.Plain(part)))}
}

// TestTables: tables of all kinds, by modules of which about as much is asked as they give: all are told as the second reckoning does, refused, kept, turned about, folded, or as they were.
func TestTables(t *testing.T) {
	r := rand.New(rand.NewPCG(11, 6))
	often := map[string]int{}
	all := modules()
	for i, m := range all {
		some := tables(r, len(m.Parts))
		if i%9 == 0 {
			some = append(some, sample.Tables()[i/9%300])
		}
		for _, l := range some {
			is := "refused as it is none"
			m := m
			if was, why := runs.Of(l); why == api.OK {
				m = asked(r, m, was)
			}
			got, rep, why := tabled(t, m, l)
			switch {
			case why == api.ErrLate || why == api.ErrShort:
				is = "refused for what is asked"
			case why == api.OK && rep.Kept:
				is = "kept"
			case why == api.OK && rep.Moves > 0:
				is = "turned about"
			case why == api.OK && slices.Equal(got, l):
				is = "as it was"
			case why == api.OK:
				is = "folded"
			}
			often[is]++
		}
	}
	for _, l := range sample.Tables() {
		tabled(t, all[len(all)/2], l)
		tabled(t, free(6), l)
	}
	for is, n := range map[string]int{"refused for what is asked": 300, "kept": 300, "turned about": 1000, "as it was": 300, "folded": 1000} {
		if often[is] < n {
			t.Errorf("%s: no more than %d", is, often[is])
		}
	}
}

// TestWrongNodes: wrong nodes at each place of a table: what runs.Of says.
func TestWrongNodes(t *testing.T) {
	l := seq(a, times(2, seq(dot, b)), c)
	for _, x := range sample.Wrongs() {
		for at := range l {
			bad := slices.Clone(l)
			bad[at] = x
			_, why := runs.Of(bad)
			got, rep, no := reduce.Table(free(3), bad)
			if why == api.OK || len(got) > 0 || rep != (api.Report{}) || no != why {
				t.Errorf("Table of %v: %v, %+v, %d", bad, got, rep, int(no))
			}
		}
	}
}
