package graph_test

import (
	"slices"
	"testing"

	"horarium/api"
	"horarium/graph"
)

// world is a plain module at work: in its tick a partition does all that it may: it changes the table, stops all, receives and sends by each channel of its.
type world struct {
	c              api.Config
	held           [][]int // of each channel
	pending, table int
	asked, stopped bool
	saw            [][]int // of each partition
}

// codes that calls tell.
const done, full, empty = 101, 102, 103

// begin is the world of c; a queue has room for one value.
func begin(c api.Config) *world {
	return &world{c: c, held: make([][]int, len(c.Chans)), pending: -1, saw: make([][]int, len(c.Parts))}
}

// tick is one of partition p.
func (w *world) tick(p int) {
	if w.stopped {
		return
	}
	w.see(p, w.table)
	if w.c.Parts[p].Sched {
		w.pending = p + 1
	}
	if w.c.Parts[p].Stop {
		w.asked = true
	}
	for i, x := range w.c.Chans {
		if x.To == p {
			w.receive(i, p)
		}
	}
	for i, x := range w.c.Chans {
		if x.From == p {
			w.send(i, p)
		}
	}
}

// see: partition p sees n.
func (w *world) see(p, n int) {
	w.saw[p] = append(w.saw[p], n)
}

func (w *world) receive(i, p int) {
	if len(w.held[i]) == 0 {
		w.see(p, empty)
		return
	}
	w.see(p, w.held[i][0])
	if w.c.Chans[i].Queue {
		w.held[i] = nil
	}
}

func (w *world) send(i, p int) {
	if w.c.Chans[i].Queue && len(w.held[i]) > 0 {
		w.see(p, full)
		return
	}
	w.see(p, done)
	w.held[i] = []int{p}
}

// end is that of a frame.
func (w *world) end() {
	w.stopped = w.asked
	if w.pending != -1 {
		w.table, w.pending = w.pending, -1
	}
}

// same: can nobody tell w from o?
func (w *world) same(o *world) bool {
	return w.pending == o.pending && w.asked == o.asked && slices.EqualFunc(w.held, o.held, slices.Equal) && slices.EqualFunc(w.saw, o.saw, slices.Equal)
}

// turned: can nobody tell whether a tick of a came ahead of one of b, or behind it?
func turned(c api.Config, a, b int) bool {
	ahead, behind := begin(c), begin(c)
	ahead.tick(a)
	ahead.tick(b)
	behind.tick(b)
	behind.tick(a)
	return ahead.same(behind)
}

// TestTurned: W1: ticks of two partitions are Free just where they can be turned about and nobody can tell.
func TestTurned(t *testing.T) {
	each(t, append(few(), drawn()...), func(c api.Config) {
		for a := range c.Parts {
			for b := range c.Parts {
				if a != b && graph.Free(c, a, b) != turned(c, a, b) {
					t.Errorf("%v: Free of %d and %d: %v", c, a, b, graph.Free(c, a, b))
				}
			}
		}
	})
}

// told: can b tell whether a had a tick between two of b's, or behind the first of them and then a frame's end?
func told(c api.Config, a, b int) bool {
	// b itself stops nothing and changes nothing, though it may: that would hide what a does.
	c.Parts = slices.Clone(c.Parts)
	c.Parts[b].Sched, c.Parts[b].Stop = false, false
	for _, ends := range []bool{false, true} {
		with, without := begin(c), begin(c)
		for _, w := range []*world{with, without} {
			w.tick(b)
			if w == with {
				w.tick(a)
			}
			if ends {
				w.end()
			}
			w.tick(b)
		}
		if !slices.Equal(with.saw[b], without.saw[b]) {
			return true
		}
	}
	return false
}

// TestSwayed: W4: a sways b at once just where b can tell what a did, and nobody else did anything.
func TestSwayed(t *testing.T) {
	each(t, append(few(), drawn()...), func(c api.Config) {
		direct := graph.Sways(c)
		for a := range c.Parts {
			for b := range c.Parts {
				if a != b && direct[a][b] != told(c, a, b) {
					t.Errorf("%v: Sways of %d and %d: %v", c, a, b, direct[a][b])
				}
			}
		}
	})
}

// TestApart: W4: what partition p sees is the same, whether those that are not in its Reach do all or nothing.
func TestApart(t *testing.T) {
	for _, c := range drawn() {
		for p := range c.Parts {
			reach := graph.Reach(c, p)
			all, few := begin(c), begin(c)
			for range 3 {
				for q := range len(c.Parts) * 2 {
					// Each twice a frame, in another order the second time.
					at := q * 5 % len(c.Parts)
					all.tick(at)
					if slices.Contains(reach, at) {
						few.tick(at)
					}
				}
				all.end()
				few.end()
			}
			for _, q := range reach {
				if !slices.Equal(all.saw[q], few.saw[q]) {
					t.Errorf("%v: what %d, which sways %d, sees: %v, %v", c, q, p, all.saw[q], few.saw[q])
				}
			}
		}
	}
}
