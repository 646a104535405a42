package config_test

import (
	"math"
	"slices"
	"strings"
	"testing"

	"horarium/api"
	"horarium/sample"
)

// edge is a number, and whether it may stand where it is put.
type edge struct {
	n  int64
	ok bool
}

func TestExamples(t *testing.T) {
	is(t, api.Config{}, api.ErrLong, 0)
	is(t, full(), api.OK, -1)
	is(t, with(func(c *api.Config) { c.Chans[3].To = c.Chans[3].From }), api.ErrChan, 3)
}

// TestHowMany: P12.1: of partitions, channels and tables too few, the least, the most, one more, many more; whatever else is wrong.
func TestHowMany(t *testing.T) {
	part := func(p int) api.Part { return api.Part{Name: "p" + string(rune('a'+p)), Procs: []api.Proc{{}}} }
	ch := func(i int) api.Chan { return api.Chan{From: i % 2, To: 1 - i%2} }
	for parts := range 9 {
		for chans := range 11 {
			for tables := range 6 {
				c := api.Config{Chans: make([]api.Chan, chans)}
				for p := range parts {
					c.Parts = append(c.Parts, part(p))
				}
				for i := range chans {
					c.Chans[i] = ch(i)
				}
				c.Tables = slices.Repeat([][]api.Node{window(0, 1)}, tables)
				why, at := api.OK, -1
				if parts < 1 || parts > 6 || chans > 8 || tables < 1 || tables > 3 {
					why, at = api.ErrLong, 0
				} else if chans > 0 && parts < 2 {
					why, at = api.ErrChan, 0
				}
				is(t, c, why, at)
			}
		}
	}
	for _, c := range []api.Config{
		with(func(c *api.Config) { c.Parts = nil }), with(func(c *api.Config) { c.Parts = []api.Part{} }), with(func(c *api.Config) { c.Parts = c.Parts[:0] }), with(func(c *api.Config) { c.Parts = make([]api.Part, 7) }), with(func(c *api.Config) { c.Parts = append(c.Parts, part(6)) }),
		with(func(c *api.Config) { c.Chans = make([]api.Chan, 9) }), with(func(c *api.Config) { c.Chans = append(c.Chans, ch(0)) }),
		with(func(c *api.Config) { c.Tables = nil }), with(func(c *api.Config) { c.Tables = [][]api.Node{} }), with(func(c *api.Config) { c.Tables = c.Tables[:0] }), with(func(c *api.Config) { c.Tables = make([][]api.Node, 4) }), with(func(c *api.Config) { c.Tables = append(c.Tables, window(0, 1)) }),
		{Parts: make([]api.Part, 1)}, {Tables: make([][]api.Node, 1)}, {Chans: make([]api.Chan, 1)}, {Chans: make([]api.Chan, 9), Tables: make([][]api.Node, 1), Parts: make([]api.Part, 1)},
	} {
		is(t, c, api.ErrLong, 0)
	}
	is(t, with(func(c *api.Config) { c.Chans = nil }), api.OK, -1)
	is(t, with(func(c *api.Config) { c.Chans = []api.Chan{} }), api.OK, -1)
	is(t, with(func(c *api.Config) { c.Tables = c.Tables[:1] }), api.OK, -1)
	is(t, with(func(c *api.Config) { c.Tables = c.Tables[2:] }), api.OK, -1)
}

// TestTwice: a name that stands ahead already: the later one is told, and of partitions the first of these.
func TestTwice(t *testing.T) {
	for p := range 6 {
		for q := range p {
			c := with(func(c *api.Config) { c.Parts[p].Name = c.Parts[q].Name })
			is(t, c, api.ErrName, p)
			for r := range 6 {
				c.Parts[r].Name = c.Parts[q].Name
				agree(t, c)
			}
			is(t, c, api.ErrName, 1)
		}
	}
	// Nearly the same is not the same.
	c := full()
	for p, s := range []string{"a", "aa", "a_", "a1", "ab", "b"} {
		c.Parts[p].Name = s
	}
	is(t, c, api.OK, -1)
}

// TestProcs: how many, and each of them at its bounds and beyond.
func TestProcs(t *testing.T) {
	for _, p := range sample.Ends(6) {
		for n := range 7 {
			why, at := api.OK, -1
			if n < 1 || n > 3 {
				why, at = api.ErrPart, p
			}
			is(t, with(func(c *api.Config) { c.Parts[p].Procs = make([]api.Proc, n) }), why, at)
		}
		is(t, with(func(c *api.Config) { c.Parts[p].Procs = nil }), api.ErrPart, p)
		for n := 1; n < 4; n++ {
			for i := range n {
				for _, x := range []edge{{least, false}, {-512, false}, {-1, false}, {0, true}, {1, true}, {4, true}, {7, true}, {510, true}, {511, true}, {512, false}, {513, false}, {1 << 32, false}, {greatest, false}} {
					stands(t, x.ok, api.ErrPart, p, with(func(c *api.Config) {
						c.Parts[p].Procs = make([]api.Proc, n)
						c.Parts[p].Procs[i].Entry = int(x.n)
					}))
				}
				for _, x := range []edge{{least, false}, {-256, false}, {-1, false}, {0, true}, {1, true}, {254, true}, {255, true}, {256, false}, {257, false}, {1 << 32, false}, {greatest, false}} {
					stands(t, x.ok, api.ErrPart, p, with(func(c *api.Config) {
						c.Parts[p].Procs = make([]api.Proc, n)
						c.Parts[p].Procs[i].Prio = int(x.n)
					}))
				}
			}
		}
	}
}

// stands: c is right, or refused for why, at.
func stands(t *testing.T, ok bool, why api.Errno, at int, c api.Config) {
	t.Helper()
	if ok {
		why, at = api.OK, -1
	}
	is(t, c, why, at)
}

// TestHealth: of each fault each action, and such as are none.
func TestHealth(t *testing.T) {
	for _, p := range sample.Ends(6) {
		for kind := range 5 {
			for _, x := range []edge{{least, false}, {-2, false}, {-1, false}, {0, true}, {1, true}, {2, true}, {3, false}, {4, false}, {5, false}, {256, false}, {1 << 32, false}, {greatest, false}} {
				stands(t, x.ok, api.ErrPart, p, with(func(c *api.Config) { c.Parts[p].Health[kind] = int(x.n) }))
			}
		}
	}
	for _, l := range sample.Each([]int{-1, 0, 1, 2, 3}, 5) {
		if len(l) == 5 {
			stands(t, slices.Min(l) >= 0 && slices.Max(l) < 3, api.ErrPart, 5, with(func(c *api.Config) { c.Parts[5].Health = [5]int(l) }))
		}
	}
}

// TestOwed: Budget and Period at their bounds and beyond, one of them 0 alone, Period below Budget. Each partition has all ticks of the one table, or one of 4096.
func TestOwed(t *testing.T) {
	for _, p := range sample.Ends(6) {
		for _, x := range []struct {
			budget, period int64
			want           api.Errno
		}{
			{0, 0, api.OK}, {1, 1, api.OK}, {1, 2, api.OK}, {2, 2, api.OK}, {1, 4096, api.OK}, {4095, 4096, api.OK}, {4096, 4096, api.OK},
			// These may be, but do not hold, for they do not divide the frame.
			{1, 3, api.ErrShort}, {3, 3, api.ErrShort}, {1, 4095, api.ErrShort}, {4095, 4095, api.ErrShort},
			{0, 1, api.ErrPart}, {0, 2, api.ErrPart}, {0, 4096, api.ErrPart}, {0, 4097, api.ErrPart}, {0, -1, api.ErrPart}, {0, least, api.ErrPart}, {0, greatest, api.ErrPart},
			{1, 0, api.ErrPart}, {2, 0, api.ErrPart}, {4096, 0, api.ErrPart}, {4097, 0, api.ErrPart}, {-1, 0, api.ErrPart}, {greatest, 0, api.ErrPart}, {least, 0, api.ErrPart},
			{2, 1, api.ErrPart}, {3, 2, api.ErrPart}, {4096, 1, api.ErrPart}, {4096, 4095, api.ErrPart}, {4096, 2048, api.ErrPart},
			{1, 4097, api.ErrPart}, {1, 8192, api.ErrPart}, {4096, 4097, api.ErrPart}, {4097, 4097, api.ErrPart}, {4097, 4096, api.ErrPart}, {4097, 8192, api.ErrPart}, {1, greatest, api.ErrPart}, {greatest, greatest, api.ErrPart}, {greatest, 1, api.ErrPart}, {greatest, 4096, api.ErrPart},
			{-1, -1, api.ErrPart}, {-1, 1, api.ErrPart}, {-1, 4096, api.ErrPart}, {1, -1, api.ErrPart}, {-2, -1, api.ErrPart}, {least, least, api.ErrPart}, {least, 1, api.ErrPart}, {1, least, api.ErrPart}, {least, greatest, api.ErrPart}, {greatest, least, api.ErrPart}, {1 << 32, 1 << 32, api.ErrPart}, {1<<32 + 1, 1<<32 + 2, api.ErrPart},
		} {
			c := full()
			for q := range c.Parts {
				c.Parts[q].Budget, c.Parts[q].Period = 0, 0
			}
			c.Chans, c.Tables = nil, [][]api.Node{window(p, 4096)}
			c.Parts[p].Budget, c.Parts[p].Period = x.budget, x.period
			at := map[api.Errno]int{api.OK: -1, api.ErrPart: p, api.ErrShort: 0}[x.want]
			is(t, c, x.want, at)
		}
	}
	numbers := append(sample.Odd(), -1, 0, 1, 2, 5, 6, 12, 4095, 4096, 4097)
	for _, budget := range numbers {
		for _, period := range numbers {
			agree(t, with(func(c *api.Config) { c.Parts[3].Budget, c.Parts[3].Period = budget, period }))
		}
	}
}

// TestEnds: each two ends of a channel, partitions and others, in modules of few partitions and of many.
func TestEnds(t *testing.T) {
	numbers := []int{math.MinInt, -1 << 32, -6, -2, -1, 0, 1, 2, 3, 4, 5, 6, 7, 256, 1 << 32, math.MaxInt}
	for n := 1; n < 7; n++ {
		for _, i := range sample.Ends(8) {
			for _, from := range numbers {
				for _, to := range numbers {
					c := api.Config{Parts: full().Parts[:n], Tables: [][]api.Node{window(0, 1)}}
					for p := range c.Parts {
						c.Parts[p].Budget, c.Parts[p].Period = 0, 0
					}
					why, at := api.OK, -1
					if n > 1 {
						c.Chans = slices.Repeat([]api.Chan{{From: 1, To: 0}}, i)
					}
					if c.Chans = append(c.Chans, api.Chan{From: from, To: to}); from < 0 || to < 0 || from >= n || to >= n || from == to {
						why, at = api.ErrChan, len(c.Chans)-1
					}
					is(t, c, why, at)
				}
			}
		}
	}
}

// TestCap: of a Queue, and of none.
func TestCap(t *testing.T) {
	for _, i := range sample.Ends(8) {
		for _, n := range append(sample.Odd(), -1, 0, 1, 2, 3, 4, 5, 6, 7, 8, 9, 10, 16, 255, 256, 264) {
			queue := with(func(c *api.Config) { c.Chans[i].Queue, c.Chans[i].Cap = true, int(n) })
			stands(t, n > 0 && n < 9, api.ErrChan, i, queue)
			last := with(func(c *api.Config) { c.Chans[i].Queue, c.Chans[i].Cap = false, int(n) })
			stands(t, n == 0, api.ErrChan, i, last)
		}
	}
}

// TestLate: of a Late at its bounds and beyond; Max may be any.
func TestLate(t *testing.T) {
	for _, i := range sample.Ends(8) {
		for _, x := range append([]edge{{4097, false}, {4098, false}, {8192, false}, {-1, false}, {-2, false}, {-4096, false}, {0, true}, {4096, true}, {4095, true}, {12, true}}, edges(sample.Odd())...) {
			stands(t, x.ok, api.ErrChan, i, with(func(c *api.Config) { c.Chans[i].Late = x.n }))
		}
		for _, n := range []uint32{0, 1, 255, 1 << 31, math.MaxUint32} {
			is(t, with(func(c *api.Config) { c.Chans[i].Max = n }), api.OK, -1)
		}
	}
	c := api.Config{Parts: full().Parts[:1:1], Chans: []api.Chan{{From: 0, To: 1}}, Tables: [][]api.Node{seq(window(0, 1), window(1, 4095))}}
	c.Parts = append(c.Parts, api.Part{Name: "b", Procs: []api.Proc{{}}})
	for _, late := range []int64{0, 1, 2, 2048, 4093, 4094, 4095, 4096} {
		c.Chans[0].From, c.Chans[0].To, c.Chans[0].Late = 1, 0, late
		stands(t, late == 0 || late > 4094, api.ErrLate, 0, c)
		c.Chans[0].From, c.Chans[0].To = 0, 1
		is(t, c, api.OK, -1)
	}
}

// edges are numbers that may not stand.
func edges(l []int64) []edge {
	var out []edge
	for _, n := range l {
		out = append(out, edge{n, false})
	}
	return out
}

// TestLongNames: names of MaxName bytes that differ in the last one alone, and of one more.
func TestLongNames(t *testing.T) {
	c := full()
	for p := range c.Parts {
		c.Parts[p].Name = strings.Repeat("n", 11) + string(rune('0'+p))
	}
	is(t, c, api.OK, -1)
	for _, p := range sample.Ends(6) {
		long := with(func(x *api.Config) { x.Parts[p].Name = c.Parts[p].Name + "0" })
		is(t, long, api.ErrName, p)
	}
}
