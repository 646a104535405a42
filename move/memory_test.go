package move_test

import (
	"math/rand/v2"
	"reflect"
	"slices"
	"testing"

	"horarium/api"
	"horarium/bound"
	"horarium/move"
	"horarium/runs"
	"horarium/sample"
)

// more are runs that would count for much.
var more = row(0, 9, 1, 9, -1, 9, 5, 9, 2, 1)

// never are partitions and channels that ask for more than there is.
var never = module(slices.Repeat([]api.Part{{Budget: 9, Period: 1, Sched: true}}, 4), ch(0, 1, 1), ch(1, 0, 1), ch(2, 99, 1), ch(-1, 99, 1))

// told is what May and Fits of l answer, move by move, and where All's are.
type told struct {
	May, Fits []bool
	All       []move.Move
	Do        [][]api.Run
}

// all is what the calls of l answer; what is none is one and the same.
func all(c api.Config, l []api.Run, dep [][]bool) told {
	out := told{All: append([]move.Move{}, move.All(l, dep)...)}
	for _, m := range each(l) {
		out.May = append(out.May, move.May(l, dep, m))
		out.Fits = append(out.Fits, move.Fits(c, l, m))
		out.Do = append(out.Do, append([]api.Run{}, move.Do(l, m)...))
	}
	return out
}

// TestNotChanged: R2, R5: what is handed in stays, and its spare room is neither read nor written.
func TestNotChanged(t *testing.T) {
	r := rand.New(rand.NewPCG(10, 6))
	for i, c := range modules()[:300] {
		row := drawn(r, r.IntN(12), len(c.Parts))
		dep := some()[i%len(some())]
		in, l, deep := sample.RoomyModule(c, never), roomy(row, more), sample.RoomyRows(dep)
		inWas, lWas, deepWas := sample.WholeModule(in), slices.Clone(whole(l)), sample.WholeRows(deep)
		if !reflect.DeepEqual(all(in, l, deep), all(c, row, dep)) {
			t.Errorf("%+v, %s, %s: an answer hangs on the room behind them", c, short(row), picture(dep))
		}
		// What is cut off, though it stands in the room still, is not there.
		for _, half := range [][]api.Run{l[:len(l)/2], l[len(l)/2:], l[:0]} {
			if !reflect.DeepEqual(all(in, half, deep), all(c, slices.Clone(half), dep)) {
				t.Errorf("%+v, %s, %s: an answer hangs on what was cut off", c, short(half), picture(dep))
			}
		}
		if !reflect.DeepEqual(sample.WholeModule(in), inWas) || !slices.Equal(whole(l), lWas) || !reflect.DeepEqual(sample.WholeRows(deep), deepWas) {
			t.Errorf("%+v, %s or %s was changed", c, short(row), picture(dep))
		}
	}
	mays(t, spelt("aba"), square("11 11")[:0], 0, 2, true)
	mays(t, spelt("aca"), [][]bool{square("111")[0][:2]}, 0, 2, true)
}

// TestNotKept: R2: an answer shares no memory with another one, spare room included, and nothing is kept of what was handed in.
func TestNotKept(t *testing.T) {
	for _, row := range sample.Rows()[:120] {
		l := roomy(row, more)
		was := slices.Clone(whole(l))
		for _, m := range each(l) {
			first, second := move.Do(l, m), move.Do(l, m)
			want := slices.Clone(whole(second))
			for i := range whole(first) {
				whole(first)[i] = api.Run{Part: 3, N: -9}
			}
			if !slices.Equal(whole(second), want) || !slices.Equal(whole(l), was) {
				t.Fatalf("Do(%s, %v) hangs on another answer", short(row), m)
			}
			clear(whole(l))
			if !slices.Equal(whole(second), want) {
				t.Fatalf("Do(%s, %v) hangs on its argument still", short(row), m)
			}
			copy(whole(l), was)
			does(t, l, m, second)
		}
		first, second := move.All(l, nil), move.All(l, nil)
		want := slices.Clone(second)
		clear(sample.Whole(first))
		if !slices.Equal(second, want) || !slices.Equal(move.All(l, nil), want) {
			t.Fatalf("All(%s) hangs on another answer", short(row))
		}
	}
}

// TestAnew: R2, R4: nothing is kept: other content in the same memory is judged anew, and nil and empty mean the same.
func TestAnew(t *testing.T) {
	l, dep := spelt("abacb"), square("11. 11. ..1")
	c := module(make([]api.Part, 3), ch(0, 1, 0))
	for range 3 {
		mays(t, l, dep, 0, 2, false)
		fits(t, c, l, 0, 2, false, false)
		sample.Turn(dep)
		mays(t, l, dep, 0, 2, true)
		sample.Turn(dep)
		c.Chans[0].From = 2
		fits(t, c, l, 0, 2, true, true)
		c.Chans[0].From = 0
		l[1].Part = 2
		mays(t, l, dep, 0, 2, true)
		fits(t, c, l, 0, 2, true, true)
		l[1].Part = 1
	}
	for _, none := range [][]api.Run{nil, {}, roomy(nil, more)} {
		for _, dep := range some() {
			agree(t, none, dep)
		}
		for _, c := range []api.Config{{}, {Parts: []api.Part{}, Chans: []api.Chan{}}, never} {
			fitting(t, c, none)
		}
		doing(t, none)
	}
	for _, l := range sample.Rows()[:80] {
		want := all(api.Config{}, l, nil)
		for _, c := range []api.Config{{Parts: []api.Part{}, Chans: []api.Chan{}}, {Tables: [][]api.Node{nil, {{}}}}} {
			if !reflect.DeepEqual(all(c, l, [][]bool{}), want) {
				t.Fatalf("%s: nil and empty are not the same", short(l))
			}
		}
	}
}

// TestFar: R1: rows of any Parts and ticks, places of any number, modules that ask for anything.
func TestFar(t *testing.T) {
	numbers := append(odd(), -1, 0, 1)
	full := pairs(3, func(x, y int) bool { return true })
	for _, n := range numbers {
		for _, k := range numbers {
			l := row(n, k, k, n, n, greatest, -1, k, 0, least, n, 1, k, greatest)
			for _, c := range []api.Config{module(nil, ch(int(n), int(k), 1)), module([]api.Part{part(n, k), part(0, n)}, ch(0, 1, n), ch(1, int(k), n)), module([]api.Part{part(k, 7), {Sched: true}, {Sched: true}}, ch(0, 2, k))} {
				w := joined(c)
				for _, m := range append(each(l), left(int(n), int(k)), right(int(k), int(n))) {
					fit(t, c, l, m, may(l, w, m) && bound.Holds(c, move.Do(l, m)) == api.OK)
				}
			}
			agree(t, l, full)
			agree(t, l, nil)
		}
	}
}

// TestMany: R1: a great many runs, partitions and channels.
func TestMany(t *testing.T) {
	const many = 1 << 18
	l := slices.Repeat(spelt("ab.c"), many)
	if got := move.All(l, square("11 11")); len(got) != 4*(many-1) || got[0] != left(2, 6) || got[4*many-5] != right(4*many-5, 4*many-1) {
		t.Errorf("All of many: %d", len(got))
	}
	if got := move.All(l, nil); len(got) != 8*(many-1) || got[0] != left(0, 4) {
		t.Errorf("All of many: %d", len(got))
	}
	mays(t, l, nil, 0, 4*many-4, false)
	mays(t, l, nil, 4*many-5, 4*many-1, true)
	if got := move.Do(l, right(0, 4*many-4)); len(got) != 4*many-1 || got[0].Part != 1 || got[4*many-5] != (api.Run{N: 2}) {
		t.Errorf("Do of many: %d", len(got))
	}
	l = slices.Concat(spelt("a"), slices.Repeat(spelt("b.c"), many), spelt("a"))
	mays(t, l, nil, 0, 3*many+1, true)
	mays(t, l, square("1.1 .1. 1.1"), 0, 3*many+1, false)
	// As many partitions as Depends has no room for.
	c := module(make([]api.Part, 1<<20), slices.Repeat([]api.Chan{ch(1, 2, 0)}, 99)...)
	fit(t, c, l, left(0, 3*many+1), true)
	c.Chans[98] = ch(2, 0, 0)
	fit(t, c, l, left(0, 3*many+1), false)
	c.Parts[1<<20-1], c.Parts[1<<19] = api.Part{Sched: true}, api.Part{Sched: true}
	fit(t, c, row(1<<20-1, 1, 1<<19, 1, 1<<20-1, 1), left(0, 2), false)
	fit(t, c, row(1<<20-1, 1, 1<<18, 1, 1<<20-1, 1), left(0, 2), true)
	if got := move.Do(l, left(0, 3*many+1)); runs.Length(got) != int64(len(l)) || len(got) != len(l)-1 {
		t.Errorf("Do of many: %d", len(got))
	}
}
