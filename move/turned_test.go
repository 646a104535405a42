package move_test

import (
	"math/rand/v2"
	"slices"
	"testing"

	"horarium/api"
	"horarium/bound"
	"horarium/graph"
	"horarium/move"
	"horarium/runs"
	"horarium/sample"
	"horarium/word"
)

// same: P10.2, W5: what each of All makes of l is the same to all by dep, of fewer runs, and of as many ticks of each. How many moves there are.
func same(t *testing.T, l []api.Run, dep [][]bool) int {
	t.Helper()
	all := move.All(l, dep)
	for _, m := range all {
		x := move.Do(l, m)
		if !move.May(l, dep, m) || !word.Same(l, x, dep) {
			p, q, _ := word.Differ(l, x, dep)
			t.Fatalf("%s by %.300s: %v makes %s: %d and %d can tell", short(l), picture(dep), m, short(x), p, q)
		}
		if len(x) >= len(l) || runs.Length(x) != runs.Length(l) {
			t.Fatalf("%s by %.300s: %v makes %s: it is as long, or longer", short(l), picture(dep), m, short(x))
		}
		for p := -3; p < 9; p++ {
			if runs.Ticks(x, p) != runs.Ticks(l, p) {
				t.Fatalf("%s by %.300s: %v makes %s: not as many ticks of %d", short(l), picture(dep), m, short(x), p)
			}
		}
	}
	return len(all)
}

// TestSame: P10.2 of rows of all kinds, by dependences of all kinds.
func TestSame(t *testing.T) {
	deps := append(some(), squares(3)...)
	moved := 0
	for _, l := range sample.Each(row(-1, 1, 0, 2, 0, -1, 1, 1, 2, 3, 6, 1), 4) {
		for _, dep := range deps[len(l):] {
			moved += same(t, l, dep)
		}
	}
	for i, l := range append(sample.Rows(), sample.Frames()...) {
		for k := range 6 {
			moved += same(t, l, deps[(i+k*9)%len(deps)])
			moved += same(t, runs.Tidy(l), squares(4)[(i*5+k*11)%64])
		}
	}
	if moved < 10000 {
		t.Errorf("no more than %d moves", moved)
	}
}

// TestHeld: P10.2 where sums are held.
func TestHeld(t *testing.T) {
	for _, l := range sample.Each(row(-1, greatest, 0, greatest, 0, 1<<62, 1, greatest-1, 1, 1, 2, 1), 4) {
		for _, dep := range squares(3) {
			same(t, l, dep)
		}
	}
}

// TestTell: W1, the other way: where a move may not be made though no run of the same Part is between, somebody can tell it.
func TestTell(t *testing.T) {
	told := 0
	for _, s := range sample.Each([]byte(".abc"), 5) {
		l := spelt(string(s))
		for _, dep := range squares(3) {
			for _, m := range each(l) {
				// No ties: all may, but places that are none, or of two Parts, or with one of the same between.
				if !may(l, nil, m) {
					continue
				}
				is := move.May(l, dep, m)
				if word.Same(l, move.Do(l, m), dep) != is {
					t.Fatalf("%s by %s: %v: %v", s, picture(dep), m, is)
				}
				if !is {
					told++
				}
			}
		}
	}
	if told < 1000 {
		t.Errorf("no more than %d were told", told)
	}
}

// modules are such as there may be: of up to MaxParts partitions.
func modules() []api.Config {
	return append(sample.Few(1), sample.Modules(api.MaxParts)...)
}

// TestNoWorse: W5: of a row in which each run has ticks no move makes more switches, or more runs, and one of a partition's makes fewer switches; also of Tidy ones.
func TestNoWorse(t *testing.T) {
	r := rand.New(rand.NewPCG(10, 3))
	for _, c := range modules() {
		l := drawn(r, 2+r.IntN(12), len(c.Parts))
		for _, m := range move.All(l, graph.Depends(c)) {
			x := move.Do(l, m)
			if runs.Switches(x) > runs.Switches(l) || len(x) > len(runs.Tidy(l)) {
				t.Fatalf("%+v: %s: %v makes %s", c, short(l), m, short(x))
			}
		}
		l = runs.Tidy(l)
		for _, m := range move.All(l, graph.Depends(c)) {
			x := move.Do(l, m)
			if l[m.I].Part >= 0 && runs.Switches(x) >= runs.Switches(l) || len(x) >= len(l) {
				t.Fatalf("%+v: %s: %v makes %s", c, short(l), m, short(x))
			}
		}
	}
}

// TestWorld: W1: a module at work has the same ports, pending table and traces after each frame, whichever move that may be was made of it.
func TestWorld(t *testing.T) {
	r := rand.New(rand.NewPCG(10, 4))
	moved := 0
	for _, c := range modules() {
		l := drawn(r, 9, len(c.Parts))
		for _, m := range move.All(l, graph.Depends(c)) {
			x := move.Do(l, m)
			first, turned := sample.Begin(c), sample.Begin(c)
			for range 3 {
				first.Frame(l)
				turned.Frame(x)
				if !first.Same(turned) {
					t.Fatalf("%+v: %s and what %v makes can be told apart", c, short(l), m)
				}
			}
			moved++
		}
	}
	if moved < 1000 {
		t.Errorf("no more than %d moves", moved)
	}
}

// TestMoves: W1, W5: move by move, each drawn of all that fit, an end is reached in fewer moves than there were runs; to the end it is the same to all, and as it is asked.
func TestMoves(t *testing.T) {
	r := rand.New(rand.NewPCG(10, 5))
	often := 0
	for _, c := range modules() {
		dep := graph.Depends(c)
		first := drawn(r, 12, len(c.Parts))
		for i, x := range c.Chans {
			c.Chans[i].Late = max(0, bound.Late(first, x.From, x.To)) * r.Int64N(2)
		}
		l := first
		for left := len(first); ; left-- {
			fits := slices.DeleteFunc(move.All(l, dep), func(m move.Move) bool { return !move.Fits(c, l, m) })
			if len(fits) == 0 {
				break
			}
			if left < 2 {
				t.Fatalf("%+v: %s: no end", c, short(first))
			}
			l = move.Do(l, fits[r.IntN(len(fits))])
			often++
			if !word.Same(first, l, dep) || bound.Holds(c, l) != api.OK {
				t.Fatalf("%+v: %s came to be %s", c, short(first), short(l))
			}
		}
	}
	if often < 1000 {
		t.Errorf("no more than %d moves", often)
	}
}
