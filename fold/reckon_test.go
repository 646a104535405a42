package fold_test

import (
	"cmp"
	"slices"
	"strconv"
	"strings"
	"testing"

	"horarium/api"
	"horarium/fold"
	"horarium/node"
	"horarium/runs"
	"horarium/sample"
)

// Short names of what sample makes.
var (
	row          = sample.Row
	window, idle = sample.Window, sample.Idle
	seq, times   = sample.Seq, sample.Times
	wide         = sample.Wide
)

// item is an item of the second reckoning: what is the same is so by its text, another way than the package's, so that a slip in one is not in both.
type item struct {
	text string
	size int
	kids []item // of a Repeat
	n    int64  // of a Repeat
	run  api.Run
}

// again is a fold: of p items from place at on, which come n times.
type again struct {
	at, p, n, saved int
}

// written is items of l.
func written(l []api.Run) []item {
	var out []item
	for _, x := range l {
		out = append(out, item{text: strconv.Itoa(x.Part) + ":" + strconv.FormatInt(x.N, 10) + " ", size: 1, run: x})
	}
	return out
}

// text is the texts of items, one behind the other.
func text(l []item) string {
	var b strings.Builder
	for _, x := range l {
		b.WriteString(x.text)
	}
	return b.String()
}

// size is the Sizes of items, together.
func size(l []item) int {
	sum := 0
	for _, x := range l {
		sum += x.size
	}
	return sum
}

// folds is every fold of l that saves something.
func folds(l []item) []again {
	var out []again
	for at := range l {
		for p := 1; at+2*p <= len(l); p++ {
			for n := 2; at+n*p <= len(l) && text(l[at:at+n*p]) == strings.Repeat(text(l[at:at+p]), n); n++ {
				saved := size(l[at:at+p])*(n-1) - 1
				if p > 1 {
					saved--
				}
				if saved > 0 {
					out = append(out, again{at, p, n, saved})
				}
			}
		}
	}
	return out
}

// top is the fold that must be made first; none, if none saves anything.
func top(l []item) again {
	all := folds(l)
	if len(all) == 0 {
		return again{}
	}
	slices.SortFunc(all, func(a, b again) int {
		return cmp.Or(b.saved-a.saved, a.at-b.at, a.p-b.p)
	})
	return all[0]
}

// folded is items of l with the one fold made.
func folded(l []item, a again) []item {
	kids := l[a.at : a.at+a.p]
	one := item{text: strconv.Itoa(a.n) + "*(" + text(kids) + ") ", size: size(kids) + 1, kids: kids, n: int64(a.n)}
	if a.p > 1 {
		one.size++
	}
	return slices.Concat(l[:a.at], []item{one}, l[a.at+a.p*a.n:])
}

// nodes is items as one node.
func nodes(l []item) []api.Node {
	var each [][]api.Node
	for _, x := range l {
		each = append(each, one(x))
	}
	if len(each) == 1 {
		return each[0]
	}
	return seq(each...)
}

// one is an item as a node.
func one(x item) []api.Node {
	if x.n > 0 {
		return times(x.n, nodes(x.kids))
	}
	if x.run.Part == -1 {
		return idle(x.run.N)
	}
	return window(x.run.Part, x.run.N)
}

// plain is what Plain must answer.
func plain(l []api.Run) []api.Node {
	if !runs.Right(l) {
		return nil
	}
	return nodes(written(l))
}

// table is what Table must answer.
func table(l []api.Run) []api.Node {
	if !runs.Right(l) {
		return nil
	}
	items := written(l)
	for a := top(items); a.n > 0; a = top(items) {
		items = folded(items, a)
	}
	return nodes(items)
}

// period is what Period must answer.
func period(l []api.Run) int {
	for p := 1; p < len(l); p++ {
		if text(written(l)) == strings.Repeat(text(written(l[:p])), len(l)/p) {
			return p
		}
	}
	return len(l)
}

// agree: every call answers of l what the second reckoning does, and the tables lead back to l.
func agree(t *testing.T, l []api.Run) {
	t.Helper()
	if got, want := fold.Period(l), period(l); got != want {
		t.Errorf("Period(%.300v): %d, want %d", l, got, want)
	}
	want := top(written(l))
	if at, p, n := fold.Best(l); at != want.at || p != want.p || n != want.n {
		t.Errorf("Best(%.300v): %d, %d, %d, want %v", l, at, p, n, want)
	}
	if got, want := fold.Plain(l), plain(l); !slices.Equal(got, want) {
		t.Errorf("Plain(%.300v): %.300v, want %.300v", l, got, want)
	}
	if got, want := fold.Table(l), table(l); !slices.Equal(got, want) {
		t.Errorf("Table(%.300v): %.300v, want %.300v", l, got, want)
	}
	back(t, l)
}

// back: P6.3, W5: of the tables of a right l runs.Of is l, tidy, and the folded one has no more nodes.
func back(t *testing.T, l []api.Run) {
	t.Helper()
	if !runs.Right(l) {
		return
	}
	short, long := fold.Table(l), fold.Plain(l)
	for _, x := range [][]api.Node{short, long} {
		if why := node.Right(x); why != api.OK {
			t.Errorf("of %.300v: %.300v is refused: %d", l, x, int(why))
		}
		// Of a row that is not tidy, the leaves alone are the row.
		if got := sample.Leaves(x); !runs.Same(got, l) {
			t.Errorf("the leaves of %.300v: %.300v, want %.300v", x, got, l)
		}
		if got, why := runs.Of(x); why != api.OK || !runs.Same(got, runs.Tidy(l)) {
			t.Errorf("runs.Of(%.300v): %.300v, %d, want %.300v", x, got, int(why), l)
		}
	}
	if len(short) > len(long) || len(long) > len(l)+1 || len(l) == 1 && len(long) != 1 {
		t.Errorf("of %d runs: %d nodes, plainly %d", len(l), len(short), len(long))
	}
}
