package move_test

import (
	"math"
	"slices"
	"testing"

	"horarium/api"
	"horarium/bound"
	"horarium/move"
	"horarium/sample"
)

// Short names of what sample makes.
var (
	row           = sample.Row
	spelt         = sample.Spelt
	ticks         = sample.Ticks
	square, pairs = sample.Square, sample.Pairs
	some, squares = sample.Dependences, sample.Squares
	picture       = sample.Picture
	short         = sample.Short
	odd           = sample.Odd
	roomy         = sample.Roomy[api.Run]
	whole         = sample.Whole[api.Run]
	tied, joined  = sample.TiesBy, sample.TiesOf

	ch, part, module = sample.Within, sample.Owed, sample.Joined
)

const (
	greatest = math.MaxInt64
	least    = math.MinInt64
)

// left is a move to the place i, right one to the place j.
func left(i, j int) move.Move  { return move.Move{I: i, J: j} }
func right(i, j int) move.Move { return move.Move{I: i, J: j, Right: true} }

// both are the moves of two places.
func both(i, j int) []move.Move {
	return []move.Move{left(i, j), right(i, j)}
}

// each is all moves of places of l, and of some about them.
func each(l []api.Run) []move.Move {
	var out []move.Move
	for i := -2; i <= len(l)+1; i++ {
		for j := -2; j <= len(l)+1; j++ {
			out = append(out, both(i, j)...)
		}
	}
	return out
}

// ties is what a second reckoning takes for who depends on whom.
type ties = sample.Ties

// may is what May must answer.
func may(l []api.Run, w ties, m move.Move) bool {
	return w.May(l, m.I, m.J)
}

// do is what Do must answer, of rows of not too many ticks.
func do(l []api.Run, m move.Move) []api.Run {
	return sample.Moved(l, m.I, m.J, m.Right)
}

// mays: May answers want, either way.
func mays(t *testing.T, l []api.Run, dep [][]bool, i, j int, want bool) {
	t.Helper()
	for _, m := range both(i, j) {
		if move.May(l, dep, m) != want {
			t.Fatalf("May(%s, %.300s, %v): %v", short(l), picture(dep), m, !want)
		}
	}
}

// does: Do answers want.
func does(t *testing.T, l []api.Run, m move.Move, want []api.Run) {
	t.Helper()
	if got := move.Do(l, m); !slices.Equal(got, want) {
		t.Fatalf("Do(%s, %v): %s, want %s", short(l), m, short(got), short(want))
	}
}

// agree: May of each two places of l, and All, are what the second reckoning tells.
func agree(t *testing.T, l []api.Run, dep [][]bool) {
	t.Helper()
	w := tied(dep)
	var want []move.Move
	for _, m := range each(l) {
		is := may(l, w, m)
		if is {
			want = append(want, m)
		}
		if move.May(l, dep, m) != is {
			t.Fatalf("May(%s, %.300s, %v): %v", short(l), picture(dep), m, !is)
		}
	}
	// each goes by I, then J, then not Right first.
	if got := move.All(l, dep); !slices.Equal(got, want) {
		t.Fatalf("All(%s, %.300s): %v, want %v", short(l), picture(dep), got, want)
	}
}

// doing: Do of each two places of l, a row of not too many ticks, is what the second reckoning tells.
func doing(t *testing.T, l []api.Run) {
	t.Helper()
	for _, m := range each(l) {
		does(t, l, m, do(l, m))
	}
}

// fit: Fits answers want.
func fit(t *testing.T, c api.Config, l []api.Run, m move.Move, want bool) {
	t.Helper()
	if move.Fits(c, l, m) != want {
		t.Fatalf("Fits(%+v, %s, %v): %v", c, short(l), m, !want)
	}
}

// fitting: Fits of each two places of l is what the second reckoning tells.
func fitting(t *testing.T, c api.Config, l []api.Run) {
	t.Helper()
	w := joined(c)
	for _, m := range each(l) {
		fit(t, c, l, m, may(l, w, m) && bound.Holds(c, do(l, m)) == api.OK)
	}
}
