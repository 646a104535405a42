package word_test

import (
	"reflect"
	"slices"
	"testing"

	"horarium/api"
	"horarium/graph"
	"horarium/sample"
	"horarium/word"
)

// more are runs that would count for much.
var more = []api.Run{{Part: 0, N: 9}, {Part: 1, N: 9}, {Part: -1, N: 9}, {Part: 5, N: 9}}

// all is what the calls of l, m and dep answer, the runs of all answers one behind the other.
func all(l, m []api.Run, dep [][]bool) []api.Run {
	var out []api.Run
	for p := -1; p < 7; p++ {
		out = slices.Concat(out, word.Project(l, p, 1), word.Swap(l, p))
	}
	x, y, no := word.Differ(l, m, dep)
	if word.Same(l, m, dep) == no {
		x = -9
	}
	return append(out, api.Run{Part: x, N: int64(y)})
}

// TestNotChanged: R2, R5: what is handed in stays, and its spare room is neither read nor written.
func TestNotChanged(t *testing.T) {
	rows := sample.Rows()
	for i, c := range sample.Modules(8)[:len(rows)] {
		dep := graph.Depends(c)
		for _, m := range [][]api.Run{nil, rows[i], word.Swap(rows[i], i%5), rows[(i*3)%len(rows)]} {
			l := roomy(rows[i], more)
			other := roomy(m, more)
			deep := sample.RoomyRows(dep)
			lWas, otherWas, deepWas := slices.Clone(whole(l)), slices.Clone(whole(other)), sample.WholeRows(deep)
			if got := all(l, other, deep); !slices.Equal(got, all(rows[i], m, dep)) {
				t.Errorf("an answer of %v, %v hangs on the room behind them", l, other)
			}
			if !slices.Equal(whole(l), lWas) || !slices.Equal(whole(other), otherWas) || !reflect.DeepEqual(sample.WholeRows(deep), deepWas) {
				t.Errorf("%v, %v or %s was changed", rows[i], m, picture(dep))
			}
			// What is cut off, though it stands in the room still, is not there.
			half := l[:len(l)/2]
			if got := all(half, l, deep); !slices.Equal(got, all(slices.Clone(half), l, dep)) {
				t.Errorf("an answer of %v hangs on what was cut off behind it", half)
			}
		}
	}
	if !word.Same(spelt("ab"), spelt("ba"), square("11 11")[:0]) || !word.Same(spelt("ac"), spelt("ca"), [][]bool{square("111")[0][:2]}) {
		t.Error("a dependence that was cut off counts")
	}
}

// TestOne: a row may be both rows of a call, or share memory with the other one.
func TestOne(t *testing.T) {
	dep := square("11 11")
	for _, l := range sample.Rows() {
		is(t, l, l, dep, -1, -1, false)
		agree(t, l, l[:len(l)/2], dep)
		agree(t, l[len(l)/2:], l[:len(l)/2], dep)
	}
	one := []bool{true, true, true}
	is(t, spelt("abc"), spelt("cba"), [][]bool{one, one, one}, 0, 1, true)
}

// TestNotKept: R2: an answer shares no memory with another one, spare room included, and nothing is kept of what was handed in.
func TestNotKept(t *testing.T) {
	for _, row := range sample.Rows() {
		l := roomy(row, more)
		was := slices.Clone(whole(l))
		var calls []func() []api.Run
		for n := -2; n <= len(l)+1; n++ {
			calls = append(calls, func() []api.Run { return word.Swap(l, n) })
			calls = append(calls, func() []api.Run { return word.Project(l, n, 0) }, func() []api.Run { return word.Project(l, 1, n) })
		}
		for _, call := range calls {
			first, second := call(), call()
			want := slices.Clone(whole(second))
			for i := range whole(first) {
				whole(first)[i] = api.Run{Part: 3, N: -9}
			}
			if !slices.Equal(whole(second), want) || !slices.Equal(whole(l), was) || !slices.Equal(call(), second) {
				t.Fatalf("an answer of %v hangs on another one", row)
			}
			clear(whole(l))
			if !slices.Equal(whole(second), want) {
				t.Fatalf("an answer of %v hangs on its argument still", row)
			}
			copy(whole(l), was)
		}
	}
}

// TestAnew: R2, R4: what was asked ahead changes no answer, nor does other content in the same memory, nor nil in place of an empty row.
func TestAnew(t *testing.T) {
	l, m, dep := spelt("abc"), spelt("bac"), square("11. 11. ..1")
	is(t, l, m, dep, 0, 1, true)
	sample.Turn(dep)
	is(t, l, m, dep, -1, -1, false)
	is(t, l, spelt("acb"), dep, 1, 2, true)
	sample.Turn(dep)
	m[0], m[1] = m[1], m[0]
	is(t, l, m, dep, -1, -1, false)
	clear(l)
	is(t, l, m, dep, 0, 0, true)
	for _, a := range [][]api.Run{nil, {}, roomy(nil, more)} {
		for _, b := range [][]api.Run{nil, {}, roomy(nil, more)} {
			for _, dep := range some() {
				is(t, a, b, dep, -1, -1, false)
			}
		}
		if len(word.Project(a, 0, 1)) > 0 || len(word.Swap(a, 0)) > 0 {
			t.Error("an answer of no row is something")
		}
	}
}
