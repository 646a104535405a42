package config_test

import (
	"slices"
	"testing"

	"horarium/api"
	"horarium/runs"
	"horarium/sample"
)

// asking is a module of n partitions of which nothing is asked but what is turned, with three tables that hold.
func asking(n int, f func(c *api.Config)) api.Config {
	c := api.Config{Parts: full().Parts[:n], Tables: [][]api.Node{window(0, 4), seq(idle(1), window(0, 3)), times(2, window(0, 2))}}
	for p := range c.Parts {
		c.Parts[p].Budget, c.Parts[p].Period = 0, 0
	}
	f(&c)
	return c
}

// tables: with t in each place of its tables Where of a module of n partitions answers why, and which.
func tables(t *testing.T, n int, table []api.Node, why api.Errno) {
	t.Helper()
	for i := range 3 {
		stands(t, why == api.OK, why, i, asking(n, func(c *api.Config) { c.Tables[i] = table }))
	}
}

// TestNoTable: each of runs.Of's refusals, just within and just beyond.
func TestNoTable(t *testing.T) {
	a, b := window(0, 1), window(1, 1)
	for _, x := range []struct {
		l   []api.Node
		why api.Errno
	}{
		{nil, api.ErrForm}, {[]api.Node{}, api.ErrForm}, {seq(a, b)[:2], api.ErrForm}, {append(seq(a, b), a...), api.ErrForm}, {window(6, 1), api.ErrForm}, {window(-1, 1), api.ErrForm}, {window(0, 0), api.ErrForm}, {idle(-3), api.ErrForm}, {times(0, a), api.ErrForm}, {seq(), api.ErrForm}, {[]api.Node{{Kind: 9, N: 1}}, api.ErrForm}, {[]api.Node{{}}, api.ErrForm},
		{sample.Wide(127, a), api.OK}, {sample.Wide(128, a), api.ErrLong}, {make([]api.Node, 129), api.ErrLong}, {make([]api.Node, 128), api.ErrForm},
		{times(48, seq(a, b)), api.OK}, {seq(times(48, seq(a, b)), b), api.OK}, {seq(times(48, seq(a, b)), a), api.ErrLong}, {times(49, seq(a, b)), api.ErrLong}, {times(2048, seq(a, idle(1))), api.ErrLong},
		{sample.Chain(15, 1, a), api.OK}, {sample.Chain(16, 1, a), api.ErrDeep}, {sample.Chain(16, 1, window(0, 4097)), api.ErrDeep},
		{window(0, 4096), api.OK}, {window(0, 4097), api.ErrTable}, {idle(greatest), api.ErrTable}, {times(1<<62, a), api.ErrTable}, {seq(window(0, 4096), a), api.ErrTable}, {times(4096, idle(1)), api.OK}, {idle(4096), api.OK},
	} {
		tables(t, 2, x.l, x.why)
		tables(t, 6, x.l, x.why)
	}
	l := full().Tables[1]
	for _, x := range sample.Wrongs() {
		for at := range l {
			bad := slices.Clone(l)
			bad[at] = x
			_, why := runs.Of(bad)
			is(t, with(func(c *api.Config) { c.Tables[1] = bad }), why, 1)
		}
	}
	for _, l := range sample.Tables() {
		for i := range 3 {
			agree(t, asking(1+len(l)%6, func(c *api.Config) { c.Tables[i] = l }))
		}
	}
}

// TestNoPart: a Part that is none, of modules of each number of partitions, at each place of a table.
func TestNoPart(t *testing.T) {
	for n := 1; n < 7; n++ {
		for part := range 6 {
			why := api.OK
			if part >= n {
				why = api.ErrPart
			}
			x := window(part, 1)
			for _, l := range [][]api.Node{x, seq(x), seq(window(0, 1), x), seq(x, window(0, 1)), seq(idle(1), x, idle(1)), times(3, x), times(2, seq(window(0, 3), seq(idle(1), times(1, x)), window(0, 1))), seq(times(2, idle(1)), x)} {
				tables(t, n, l, why)
			}
			tables(t, n, times(49, seq(idle(1), x)), api.ErrLong)
			tables(t, n, times(4096, seq(idle(1), x)), api.ErrTable)
			tables(t, n, append(seq(x), x...), api.ErrForm)
			tables(t, n, sample.Chain(16, 1, x), api.ErrDeep)
		}
		tables(t, n, window(6, 1), api.ErrForm)
	}
}

// TestHolds: each of bound.Holds' refusals, just within and just beyond.
func TestHolds(t *testing.T) {
	a, b := window(0, 1), window(1, 1)
	asks := func(late, budget, period int64) func(c *api.Config) {
		return func(c *api.Config) {
			c.Chans = []api.Chan{{From: 1, To: 0, Late: late}}
			c.Parts[0].Budget, c.Parts[0].Period = budget, period
		}
	}
	for _, x := range []struct {
		l                    []api.Node
		late, budget, period int64
		why                  api.Errno
	}{
		{seq(a, b), 1, 0, 0, api.OK}, {seq(b, a), 1, 0, 0, api.OK}, {seq(b, idle(1), a), 1, 0, 0, api.ErrLate}, {seq(b, idle(1), a), 2, 0, 0, api.OK}, {seq(b, b, a), 1, 0, 0, api.ErrLate}, {seq(b, b, a), 2, 0, 0, api.OK}, {b, 4096, 0, 0, api.ErrLate}, {a, 1, 0, 0, api.OK}, {idle(4096), 1, 0, 0, api.OK}, {seq(b, window(0, 4095)), 1, 0, 0, api.OK}, {seq(a, window(1, 4095)), 4094, 0, 0, api.ErrLate}, {seq(a, window(1, 4095)), 4095, 0, 0, api.OK},
		{window(0, 4), 0, 4, 4, api.OK}, {window(0, 4), 0, 2, 2, api.OK}, {window(0, 4), 0, 3, 3, api.ErrShort}, {window(0, 4), 0, 1, 3, api.ErrShort}, {seq(a, a, b, b), 0, 2, 4, api.OK}, {seq(a, a, b, b), 0, 3, 4, api.ErrShort}, {seq(a, a, b, b), 0, 1, 2, api.ErrShort}, {seq(a, b, a, b), 0, 1, 2, api.OK}, {times(2, seq(a, b)), 0, 1, 2, api.OK}, {times(2, seq(a, b)), 0, 2, 2, api.ErrShort}, {idle(4), 0, 1, 4, api.ErrShort}, {b, 0, 1, 1, api.ErrShort}, {seq(a, window(1, 4095)), 0, 1, 4096, api.OK},
		{seq(b, idle(1), a, a), 1, 3, 4, api.ErrLate}, {seq(b, idle(1), a, a), 2, 3, 4, api.ErrShort}, {seq(b, idle(1), a, a), 2, 2, 4, api.OK}, {seq(b, idle(1), a, a), 1, 2, 4, api.ErrLate},
		// What is none, or has a Part that is none, is told ahead of what does not hold.
		{seq(b, window(2, 1), a), 1, 3, 3, api.ErrPart}, {seq(b, window(5, 1)), 1, 1, 1, api.ErrPart}, {seq(b, b, a)[:3], 1, 3, 3, api.ErrForm},
	} {
		c := asking(2, asks(x.late, x.budget, x.period))
		for i := range 3 {
			// The others hold: 0 has all of their ticks.
			c.Tables = slices.Repeat([][]api.Node{window(0, max(1, x.period))}, 3)
			c.Tables[i] = x.l
			stands(t, x.why == api.OK, x.why, i, c)
		}
	}
}

// TestEachAsked: what each channel and each partition asks of each table.
func TestEachAsked(t *testing.T) {
	for i := range 3 {
		for p := range 6 {
			own := asking(6, func(c *api.Config) {
				c.Tables = slices.Repeat([][]api.Node{seq(window(p, 2), idle(2))}, 3)
				c.Parts[p].Budget, c.Parts[p].Period = 2, 4
			})
			is(t, own, api.OK, -1)
			own.Tables[i] = seq(window(p, 1), idle(3))
			is(t, own, api.ErrShort, i)
		}
		for k := range 8 {
			late := asking(6, func(c *api.Config) {
				c.Tables = slices.Repeat([][]api.Node{seq(window(4, 1), idle(1), window(2, 1))}, 3)
				c.Chans = slices.Repeat([]api.Chan{{From: 4, To: 2, Late: 2}}, 8)
			})
			is(t, late, api.OK, -1)
			late.Chans[k].Late = 1
			is(t, late, api.ErrLate, 0)
			late.Chans[k].Late = 2
			late.Tables[i] = seq(window(4, 1), idle(2), window(2, 1))
			is(t, late, api.ErrLate, i)
			for other := range late.Chans {
				if other != k {
					late.Chans[other].Late = 0
				}
			}
			is(t, late, api.ErrLate, i)
			late.Chans[k].Late = 0
			is(t, late, api.OK, -1)
		}
	}
}
