package move_test

import (
	"math"
	"slices"
	"testing"

	"horarium/api"
	"horarium/bound"
	"horarium/move"
	"horarium/sample"
)

// Short names of what sample makes.
var (
	row           = sample.Row
	spelt         = sample.Spelt
	ticks         = sample.Ticks
	square, pairs = sample.Square, sample.Pairs
	some, squares = sample.Dependences, sample.Squares
	picture       = sample.Picture
	short         = sample.Short
	odd           = sample.Odd
	roomy         = sample.Roomy[api.Run]
	whole         = sample.Whole[api.Run]

	ch, part, module = sample.Within, sample.Owed, sample.Joined
)

const (
	greatest = math.MaxInt64
	least    = math.MinInt64
)

// left is a move to the place i, right one to the place j.
func left(i, j int) move.Move  { return move.Move{I: i, J: j} }
func right(i, j int) move.Move { return move.Move{I: i, J: j, Right: true} }

// both are the moves of two places.
func both(i, j int) []move.Move {
	return []move.Move{left(i, j), right(i, j)}
}

// each is all moves of places of l, and of some about them.
func each(l []api.Run) []move.Move {
	var out []move.Move
	for i := -2; i <= len(l)+1; i++ {
		for j := -2; j <= len(l)+1; j++ {
			out = append(out, both(i, j)...)
		}
	}
	return out
}

// ties are two by two who depends on whom, each both ways.
type ties map[[2]int]int

// tie: a and b depend.
func (w ties) tie(a, b int) {
	w[[2]int{a, b}], w[[2]int{b, a}] = 1, 1
}

// tied is what dep says either way.
func tied(dep [][]bool) ties {
	w := ties{}
	for a, r := range dep {
		for b, is := range r {
			if is {
				w.tie(a, b)
			}
		}
	}
	return w
}

// joined is what the partitions of c can tell of each other, by its channels and by who may change the table.
func joined(c api.Config) ties {
	w := ties{}
	for _, x := range c.Chans {
		if min(x.From, x.To) >= 0 && max(x.From, x.To) < len(c.Parts) {
			w.tie(x.From, x.To)
		}
	}
	for a, x := range c.Parts {
		for b, y := range c.Parts {
			if x.Sched && y.Sched {
				w.tie(a, b)
			}
		}
	}
	return w
}

// may is what May must answer: who has runs between is gathered, and none of these may be the one at the ends, or have to do with it.
func may(l []api.Run, w ties, m move.Move) bool {
	if m.I < 0 || m.J <= m.I || m.J >= len(l) || l[m.I].Part != l[m.J].Part {
		return false
	}
	mine := l[m.I].Part
	between := map[int]int{}
	for _, x := range l[m.I+1 : m.J] {
		between[x.Part]++
	}
	for p := range between {
		if p == mine || p != -1 && mine != -1 && w[[2]int{p, mine}] > 0 {
			return false
		}
	}
	return true
}

// do is what Do must answer, of rows of not too many ticks: the ticks are written out run by run, those of the one that goes are put to the place, and all are read as runs again. Another way than the package's, which counts by runs.
func do(l []api.Run, m move.Move) []api.Run {
	if m.I < 0 || m.J <= m.I || m.J >= len(l) {
		return l
	}
	pieces := make([][]int, len(l))
	for at := range l {
		pieces[at] = ticks(l[at : at+1])
	}
	at, gone := m.I, m.J
	if m.Right {
		at, gone = gone, at
	}
	pieces[at] = append(pieces[at], slices.Repeat([]int{l[at].Part}, len(pieces[gone]))...)
	pieces[gone] = nil
	return together(slices.Concat(pieces...))
}

// together is a run for each stretch of ticks of one.
func together(w []int) []api.Run {
	var out []api.Run
	for at, p := range w {
		if at == 0 || w[at-1] != p {
			out = append(out, api.Run{Part: p})
		}
		out[len(out)-1].N++
	}
	return out
}

// mays: May answers want, either way.
func mays(t *testing.T, l []api.Run, dep [][]bool, i, j int, want bool) {
	t.Helper()
	for _, m := range both(i, j) {
		if move.May(l, dep, m) != want {
			t.Fatalf("May(%s, %.300s, %v): %v", short(l), picture(dep), m, !want)
		}
	}
}

// does: Do answers want.
func does(t *testing.T, l []api.Run, m move.Move, want []api.Run) {
	t.Helper()
	if got := move.Do(l, m); !slices.Equal(got, want) {
		t.Fatalf("Do(%s, %v): %s, want %s", short(l), m, short(got), short(want))
	}
}

// agree: May of each two places of l, and All, are what the second reckoning tells.
func agree(t *testing.T, l []api.Run, dep [][]bool) {
	t.Helper()
	w := tied(dep)
	var want []move.Move
	for _, m := range each(l) {
		is := may(l, w, m)
		if is {
			want = append(want, m)
		}
		if move.May(l, dep, m) != is {
			t.Fatalf("May(%s, %.300s, %v): %v", short(l), picture(dep), m, !is)
		}
	}
	// each goes by I, then J, then not Right first.
	if got := move.All(l, dep); !slices.Equal(got, want) {
		t.Fatalf("All(%s, %.300s): %v, want %v", short(l), picture(dep), got, want)
	}
}

// doing: Do of each two places of l, a row of not too many ticks, is what the second reckoning tells.
func doing(t *testing.T, l []api.Run) {
	t.Helper()
	for _, m := range each(l) {
		does(t, l, m, do(l, m))
	}
}

// fit: Fits answers want.
func fit(t *testing.T, c api.Config, l []api.Run, m move.Move, want bool) {
	t.Helper()
	if move.Fits(c, l, m) != want {
		t.Fatalf("Fits(%+v, %s, %v): %v", c, short(l), m, !want)
	}
}

// fitting: Fits of each two places of l is what the second reckoning tells.
func fitting(t *testing.T, c api.Config, l []api.Run) {
	t.Helper()
	w := joined(c)
	for _, m := range each(l) {
		fit(t, c, l, m, may(l, w, m) && bound.Holds(c, do(l, m)) == api.OK)
	}
}
