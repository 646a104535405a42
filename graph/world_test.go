package graph_test

import (
	"slices"
	"testing"

	"horarium/api"
	"horarium/graph"
	"horarium/sample"
)

// turned: can nobody tell whether a tick of a came ahead of one of b, or behind it?
func turned(c api.Config, a, b int) bool {
	ahead, behind := sample.Begin(c), sample.Begin(c)
	ahead.Tick(a)
	ahead.Tick(b)
	behind.Tick(b)
	behind.Tick(a)
	return ahead.Same(behind)
}

// TestTurned: W1: ticks of two partitions are Free just where they can be turned about and nobody can tell.
func TestTurned(t *testing.T) {
	each(t, append(few(), drawn()...), func(c api.Config) {
		for a := range c.Parts {
			for b := range c.Parts {
				if a != b && graph.Free(c, a, b) != turned(c, a, b) {
					t.Errorf("%v: Free of %d and %d: %v", c, a, b, graph.Free(c, a, b))
				}
			}
		}
	})
}

// told: can b tell whether a had a tick between two of b's, or behind the first of them and then a frame's end?
func told(c api.Config, a, b int) bool {
	// b itself stops nothing and changes nothing, though it may: that would hide what a does.
	c.Parts = slices.Clone(c.Parts)
	c.Parts[b].Sched, c.Parts[b].Stop = false, false
	for _, ends := range []bool{false, true} {
		with, without := sample.Begin(c), sample.Begin(c)
		for _, w := range []*sample.World{with, without} {
			w.Tick(b)
			if w == with {
				w.Tick(a)
			}
			if ends {
				w.End()
			}
			w.Tick(b)
		}
		if !slices.Equal(with.Saw[b], without.Saw[b]) {
			return true
		}
	}
	return false
}

// TestSwayed: W4: a sways b at once just where b can tell what a did, and nobody else did anything.
func TestSwayed(t *testing.T) {
	each(t, append(few(), drawn()...), func(c api.Config) {
		direct := graph.Sways(c)
		for a := range c.Parts {
			for b := range c.Parts {
				if a != b && direct[a][b] != told(c, a, b) {
					t.Errorf("%v: Sways of %d and %d: %v", c, a, b, direct[a][b])
				}
			}
		}
	})
}

// TestApart: W4: what partition p sees is the same, whether those that are not in its Reach do all or nothing.
func TestApart(t *testing.T) {
	for _, c := range drawn() {
		for p := range c.Parts {
			reach := graph.Reach(c, p)
			all, few := sample.Begin(c), sample.Begin(c)
			for range 3 {
				for q := range len(c.Parts) * 2 {
					// Each twice a frame, in another order the second time.
					at := q * 5 % len(c.Parts)
					all.Tick(at)
					if slices.Contains(reach, at) {
						few.Tick(at)
					}
				}
				all.End()
				few.End()
			}
			for _, q := range reach {
				if !slices.Equal(all.Saw[q], few.Saw[q]) {
					t.Errorf("%v: what %d, which sways %d, sees: %v, %v", c, q, p, all.Saw[q], few.Saw[q])
				}
			}
		}
	}
}
