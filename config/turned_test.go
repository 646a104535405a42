package config_test

import (
	"math/rand/v2"
	"testing"

	"horarium/api"
	"horarium/config"
	"horarium/fold"
	"horarium/graph"
	"horarium/move"
	"horarium/reduce"
	"horarium/runs"
)

// TestTurned: W5: a module that is right stays so, whichever of its tables are turned about, one, or one behind the other; and what is turned is not the same any more.
func TestTurned(t *testing.T) {
	turned, kept := 0, 0
	for _, c := range drawn(6, 3000) {
		is(t, c, api.OK, -1)
		all := config.Copy(c)
		for i, l := range c.Tables {
			x, rep, why := reduce.Table(c, l)
			if why != api.OK {
				t.Fatalf("table %d of %s: %d", i, brief(c), int(why))
			}
			one := config.Copy(c)
			one.Tables[i], all.Tables[i] = x, x
			is(t, one, api.OK, -1)
			is(t, all, api.OK, -1)
			if rep.Moves > 0 {
				turned++
				same(t, one, c, false)
			}
			if rep.Kept {
				kept++
				same(t, one, c, true)
			}
		}
	}
	if turned < 1000 || kept < 100 {
		t.Errorf("no more than %d were turned about, %d kept", turned, kept)
	}
}

// TestMoved: W5: so it does by each single move that fits, folded or plain; and by each that may be made, but does not fit, it does not.
func TestMoved(t *testing.T) {
	r := rand.New(rand.NewPCG(12, 7))
	fits, others := 0, 0
	for _, c := range drawn(7, 1000) {
		i := r.IntN(len(c.Tables))
		l, _ := runs.Of(c.Tables[i])
		for _, m := range move.All(l, graph.Depends(c)) {
			x := move.Do(l, m)
			for _, table := range [][]api.Node{fold.Plain(x), fold.Table(x)} {
				one := config.Copy(c)
				one.Tables[i] = table
				why := config.Right(one)
				if move.Fits(c, l, m) != (why == api.OK) || why != api.OK && why != api.ErrLate && why != api.ErrShort {
					t.Fatalf("%s, moved by %v: %d", brief(c), m, int(why))
				}
				if why == api.OK {
					fits++
				} else {
					others++
				}
			}
		}
	}
	if fits < 1000 || others < 1000 {
		t.Errorf("no more than %d fit, %d do not", fits, others)
	}
}
