package bound_test

import (
	"math/rand/v2"
	"reflect"
	"slices"
	"testing"

	"horarium/api"
	"horarium/bound"
	"horarium/sample"
)

// more are runs that would count for much.
var more = row(0, 9, 1, 9, -1, 9, 5, 9, 2, 1)

// never are partitions and channels that ask for more than there is.
var never = module(slices.Repeat([]api.Part{part(9, 1)}, 4), ch(0, 99, 1), ch(1, 99, 1), ch(2, 99, 1), ch(-1, 99, 1))

// all is what the calls of l answer, one behind the other.
func all(l []api.Run) []int64 {
	var out []int64
	for _, p := range some() {
		out = append(out, bound.Gaps(l, p))
		for _, q := range some() {
			out = append(out, bound.Late(l, p, q))
		}
		for period := int64(-1); period <= 40; period++ {
			out = append(out, bound.Budget(l, p, period))
		}
	}
	return out
}

// TestNotChanged: R2, R5: a row stays, and its spare room is neither read nor written.
func TestNotChanged(t *testing.T) {
	for _, row := range sample.Rows() {
		l := roomy(row, more)
		was := slices.Clone(whole(l))
		if !slices.Equal(all(l), all(row)) {
			t.Errorf("an answer of %s hangs on the room behind it", short(row))
		}
		// What is cut off, though it stands in the room still, is not there.
		for _, half := range [][]api.Run{l[:len(l)/2], l[len(l)/2:], l[:0]} {
			if !slices.Equal(all(half), all(slices.Clone(half))) {
				t.Errorf("an answer of %s hangs on what was cut off", short(half))
			}
		}
		if !slices.Equal(whole(l), was) {
			t.Errorf("%s was changed", short(row))
		}
	}
}

// TestModuleNotChanged: R2, R5 of Holds.
func TestModuleNotChanged(t *testing.T) {
	r := rand.New(rand.NewPCG(9, 3))
	for range 2000 {
		c, l := drawn(r)
		want := holds(c, ticks(l))
		in, row := sample.RoomyModule(c, never), roomy(l, more)
		was, rowWas := sample.WholeModule(in), slices.Clone(whole(row))
		is(t, in, row, want)
		if !reflect.DeepEqual(sample.WholeModule(in), was) || !slices.Equal(whole(row), rowWas) {
			t.Errorf("%+v or %s was changed", c, short(l))
		}
		is(t, in, row[:0], holds(c, nil))
		in.Parts, in.Chans = in.Parts[:len(c.Parts)/2], in.Chans[:len(c.Chans)/2]
		is(t, in, row, holds(module(slices.Clone(in.Parts), slices.Clone(in.Chans)...), ticks(l)))
	}
}

// TestAnew: R2, R4: nothing is kept: other content in the same memory is judged anew, and what was asked ahead changes no answer.
func TestAnew(t *testing.T) {
	r := rand.New(rand.NewPCG(9, 4))
	var l []api.Run
	var in api.Config
	for range 2000 {
		c, row := drawn(r)
		first := holds(c, ticks(row))
		l = append(l[:0], row...)
		in.Parts = append(in.Parts[:0], c.Parts...)
		in.Chans = append(in.Chans[:0], c.Chans...)
		answers := all(row)
		for range 2 {
			is(t, in, l, first)
			if !slices.Equal(all(l), answers) {
				t.Fatalf("an answer of %s hangs on what stood there ahead of it", short(l))
			}
		}
		clear(l)
		is(t, in, l, holds(c, nil))
		clear(in.Parts)
		clear(in.Chans)
		is(t, in, row, api.OK)
		if !slices.Equal(all(row), answers) {
			t.Fatalf("an answer of %s hangs on another row", short(row))
		}
	}
}
