package reduce_test

import (
	"fmt"
	"math"
	"math/rand/v2"
	"slices"
	"testing"

	"horarium/api"
	"horarium/bound"
	"horarium/fold"
	"horarium/graph"
	"horarium/move"
	"horarium/node"
	"horarium/reduce"
	"horarium/runs"
	"horarium/sample"
	"horarium/word"
)

// Short names of what sample makes.
var (
	row          = sample.Row
	spelt        = sample.Spelt
	ticks        = sample.Ticks
	short        = sample.Short
	odd          = sample.Odd
	window, idle = sample.Window, sample.Idle
	seq, times   = sample.Seq, sample.Times
	roomy        = sample.Roomy[api.Run]
	whole        = sample.Whole[api.Run]

	ch, part, module = sample.Within, sample.Owed, sample.Joined
)

const (
	greatest = math.MaxInt64
	least    = math.MinInt64
)

// free is n partitions of which none can tell of another.
func free(n int) api.Config {
	return module(make([]api.Part, n))
}

// merge is what Merge must answer, of rows of not too many ticks: these are written out, and read as runs again. Another way than the package's, which counts by runs.
func merge(l []api.Run) ([]api.Run, bool) {
	x := sample.Together(ticks(l))
	return x, !slices.Equal(x, l)
}

// draw is what Draw must answer: each two places are tried, to the left, then to the right.
func draw(c api.Config, l []api.Run) ([]api.Run, bool) {
	w := sample.TiesOf(c)
	for i := range l {
		for j := range l {
			if !w.May(l, i, j) {
				continue
			}
			for _, right := range []bool{false, true} {
				if x := sample.Moved(l, i, j, right); sample.Holds(c, ticks(x)) == api.OK {
					return x, true
				}
			}
		}
	}
	return l, false
}

// ours is the ticks of w that are p's or q's.
func ours(w []int, p, q int) []int {
	return slices.DeleteFunc(slices.Clone(w), func(x int) bool { return x != p && x != q })
}

// same: can nobody tell the ticks a from the ticks b?
func same(w sample.Ties, a, b []int) bool {
	for p := range 6 {
		for q := range 6 {
			if (p == q || w.Tied(p, q)) && !slices.Equal(ours(a, p, q), ours(b, p, q)) {
				return false
			}
		}
	}
	return len(ours(a, -1, -1)) == len(ours(b, -1, -1))
}

// right: may l be a frame's runs?
func right(l []api.Run) bool {
	all := int64(0)
	for _, x := range l {
		if x.N < 1 || x.N > 4096 || x.Part < -1 || x.Part > 5 {
			return false
		}
		all += x.N
	}
	return len(l) > 0 && len(l) < 97 && all < 4097
}

// valid is what Valid must answer, of an a of not too many ticks.
func valid(c api.Config, a, b []api.Run) bool {
	return right(b) && sample.Holds(c, ticks(b)) == api.OK && same(sample.TiesOf(c), ticks(a), ticks(b))
}

// end is what Runs must answer.
func end(c api.Config, l []api.Run) ([]api.Run, int) {
	for n := 0; ; n++ {
		x, ok := merge(l)
		if !ok || !valid(c, l, x) {
			x, ok = draw(c, l)
		}
		if !ok || !valid(c, l, x) {
			return l, n
		}
		l = x
	}
}

// table is what Table must answer: the leaves are written out by calls that call themselves; what folds is fold's.
func table(c api.Config, t []api.Node) ([]api.Node, api.Report, api.Errno) {
	if why := node.Right(t); why != api.OK {
		return nil, api.Report{}, why
	}
	was := sample.Together(ticks(sample.Leaves(t)))
	if len(was) > 96 {
		return nil, api.Report{}, api.ErrLong
	}
	if why := sample.Holds(c, ticks(was)); why != api.OK {
		return nil, api.Report{}, why
	}
	x, n := end(c, was)
	out := fold.Table(x)
	if len(out) > len(t) {
		return t, api.Report{Moves: 0, Runs: len(was), Was: len(was), Nodes: len(t), WasNode: len(t), Kept: true}, api.OK
	}
	return out, api.Report{Moves: n, Runs: len(x), Was: len(was), Nodes: len(out), WasNode: len(t), Kept: false}, api.OK
}

// makes: a pass answers want, is.
func makes(t *testing.T, name string, pass reduce.Pass, c api.Config, l, want []api.Run, is bool) {
	t.Helper()
	if got, ok := pass(c, l); !slices.Equal(got, want) || ok != is {
		t.Fatalf("%s(%+v, %s): %s, %v, want %s, %v", name, c, short(l), short(got), ok, short(want), is)
	}
}

// draws: Draw answers want, is, and Stuck what follows from it.
func draws(t *testing.T, c api.Config, l, want []api.Run, is bool) {
	t.Helper()
	makes(t, "Draw", reduce.Draw, c, l, want, is)
	if reduce.Stuck(c, l) == is {
		t.Fatalf("Stuck(%+v, %s): %v", c, short(l), is)
	}
}

// valids: Valid answers want.
func valids(t *testing.T, c api.Config, a, b []api.Run, want bool) {
	t.Helper()
	if reduce.Valid(c, a, b) != want {
		t.Fatalf("Valid(%+v, %s, %s): %v", c, short(a), short(b), !want)
	}
}

// ends: Runs answers want, n.
func ends(t *testing.T, c api.Config, l, want []api.Run, n int) {
	t.Helper()
	if got, often := reduce.Runs(c, l); !slices.Equal(got, want) || often != n {
		t.Fatalf("Runs(%+v, %s): %s, %d, want %s, %d", c, short(l), short(got), often, short(want), n)
	}
}

// nodes is l as a text, or its beginning, if it is long.
func nodes(l []api.Node) string {
	if len(l) > 50 {
		return fmt.Sprint(l[:50]) + " and more"
	}
	return fmt.Sprint(l)
}

// tells: Table answers want, r, why.
func tells(t *testing.T, c api.Config, l, want []api.Node, r api.Report, why api.Errno) {
	t.Helper()
	got, rep, no := reduce.Table(c, l)
	if !slices.Equal(got, want) || rep != r || no != why {
		t.Fatalf("Table(%+v, %s): %s, %+v, %d, want %s, %+v, %d", c, nodes(l), nodes(got), rep, int(no), nodes(want), r, int(why))
	}
}

// agree: all answers of l, a row of not too many ticks, are what the second reckoning tells.
func agree(t *testing.T, c api.Config, l []api.Run) {
	t.Helper()
	tidy, merged := merge(l)
	makes(t, "Merge", reduce.Merge, c, l, tidy, merged)
	drawn, drew := draw(c, l)
	draws(t, c, l, drawn, drew)
	for _, x := range [][]api.Run{l, tidy, drawn} {
		valids(t, c, l, x, valid(c, l, x))
		valids(t, c, x, l, valid(c, x, l))
	}
	x, n := end(c, l)
	ends(t, c, l, x, n)
	plainly(t, c, l)
}

// plainly: all answers of l, a row of any numbers, are what the chapter says in words, of the calls that it names.
func plainly(t *testing.T, c api.Config, l []api.Run) {
	t.Helper()
	dep := graph.Depends(c)
	tidy := runs.Tidy(l)
	makes(t, "Merge", reduce.Merge, c, l, tidy, !runs.Same(l, tidy))
	one := func(l []api.Run) ([]api.Run, bool) {
		for _, m := range move.All(l, dep) {
			if move.Fits(c, l, m) {
				return move.Do(l, m), true
			}
		}
		return l, false
	}
	is := func(a, b []api.Run) bool {
		return word.Same(a, b, dep) && bound.Holds(c, b) == api.OK && runs.Right(b)
	}
	drawn, drew := one(l)
	draws(t, c, l, drawn, drew)
	for _, x := range [][]api.Run{l, tidy, drawn} {
		valids(t, c, l, x, is(l, x))
	}
	n := 0
	for x := l; ; n++ {
		if !runs.Same(x, runs.Tidy(x)) && is(x, runs.Tidy(x)) {
			x = runs.Tidy(x)
		} else if next, ok := one(x); ok && is(x, next) {
			x = next
		} else {
			ends(t, c, l, x, n)
			return
		}
	}
}

// tabled: Table of l answers what the second reckoning tells; what it told.
func tabled(t *testing.T, c api.Config, l []api.Node) ([]api.Node, api.Report, api.Errno) {
	t.Helper()
	want, r, why := table(c, l)
	tells(t, c, l, want, r, why)
	return want, r, why
}

// modules are such as there may be: of up to MaxParts partitions.
func modules() []api.Config {
	return append(sample.Few(1), sample.Modules(api.MaxParts)...)
}

// asked is c of which about as much is asked as the frame l gives, of a few channels and partitions.
func asked(r *rand.Rand, c api.Config, l []api.Run) api.Config {
	c = sample.WholeModule(c)
	w := ticks(l)
	for i, x := range c.Chans {
		if r.IntN(2) == 0 {
			c.Chans[i].Late = max(0, sample.Late(w, x.From, x.To)+r.Int64N(6)-int64(r.IntN(12)/11))
		}
	}
	if len(c.Parts) == 0 || len(w) == 0 || r.IntN(2) == 0 {
		return c
	}
	p, period := r.IntN(len(c.Parts)), int64(len(w))
	for n := int64(5); n > 1; n-- {
		if period%n == 0 && r.IntN(2) == 0 {
			period /= n
		}
	}
	c.Parts[p].Budget, c.Parts[p].Period = sample.Budget(w, p, period)-r.Int64N(3)+int64(r.IntN(8)/7), period
	return c
}
