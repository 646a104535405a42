package word_test

import (
	"math"
	"slices"
	"testing"

	"horarium/api"
	"horarium/runs"
	"horarium/sample"
	"horarium/word"
)

// project is what Project must answer, of rows of not too many ticks: tick by tick, a new run where another Part's tick comes.
func project(l []api.Run, a, b int) []api.Run {
	var out []api.Run
	for _, x := range l {
		for range x.N {
			if x.Part != a && x.Part != b {
				continue
			}
			if len(out) == 0 || out[len(out)-1].Part != x.Part {
				out = append(out, api.Run{Part: x.Part})
			}
			out[len(out)-1].N++
		}
	}
	return out
}

func TestProject(t *testing.T) {
	mixed := row(0, 2, -1, 1, 1, 3, 2, 4, 0, 1, -1, 2, 0, 5, 1, 1)
	for _, x := range []struct {
		l    []api.Run
		a, b int
		want []api.Run
	}{
		{nil, 0, 1, nil}, {nil, -1, -1, nil}, {[]api.Run{}, 0, 0, nil}, {nil, math.MinInt, math.MaxInt, nil},
		// One partition, two, idle ones.
		{row(0, 3), 0, 1, row(0, 3)}, {row(0, 3), 1, 0, row(0, 3)}, {row(0, 3), 1, 2, nil}, {row(0, 3), 0, 0, row(0, 3)},
		{row(3, 1, 3, 2, 3, 4), 3, 4, row(3, 7)}, {row(3, 1, 3, 2, 3, 4), 2, 3, row(3, 7)}, {row(3, 1, 3, 2), 4, 5, nil},
		{row(0, 1, 1, 2, 0, 3, 1, 4), 0, 1, row(0, 1, 1, 2, 0, 3, 1, 4)}, {row(0, 1, 1, 2, 0, 3, 1, 4), 1, 0, row(0, 1, 1, 2, 0, 3, 1, 4)},
		{row(0, 1, 1, 2, 0, 3, 1, 4), 0, 0, row(0, 4)}, {row(0, 1, 1, 2, 0, 3, 1, 4), 1, 1, row(1, 6)}, {row(0, 1, 1, 2, 0, 3), 1, 2, row(1, 2)},
		{row(-1, 4), 0, 1, nil}, {row(-1, 4), -1, 0, row(-1, 4)}, {row(-1, 4, -1, 1), -1, -1, row(-1, 5)}, {row(-1, 4), -2, 0, nil},
		// The others' ticks between make no end of a run.
		{mixed, 0, 1, row(0, 2, 1, 3, 0, 6, 1, 1)}, {mixed, 0, 2, row(0, 2, 2, 4, 0, 6)}, {mixed, 1, 2, row(1, 3, 2, 4, 1, 1)},
		{mixed, 0, 0, row(0, 8)}, {mixed, 1, 1, row(1, 4)}, {mixed, 2, 2, row(2, 4)}, {mixed, 3, 3, nil}, {mixed, 3, 2, row(2, 4)},
		{mixed, -1, 0, row(0, 2, -1, 1, 0, 1, -1, 2, 0, 5)}, {mixed, 1, -1, row(-1, 1, 1, 3, -1, 2, 1, 1)}, {mixed, -1, -1, row(-1, 3)}, {mixed, -1, 3, row(-1, 3)},
		// No partition's.
		{row(-2, 1, 6, 2, -2, 3), -2, 6, row(-2, 1, 6, 2, -2, 3)}, {row(-2, 1, 6, 2, -2, 3), -2, -2, row(-2, 4)}, {row(-2, 1, 6, 2, -2, 3), 6, 0, row(6, 2)},
		{row(7, 1, 0, 2, 7, 3), 7, 7, row(7, 4)}, {row(7, 1, 0, 2, 7, 3), 0, 7, row(7, 1, 0, 2, 7, 3)}, {row(7, 1, 0, 2), 6, 8, nil},
		{row(math.MaxInt, 1, math.MinInt, 2, math.MaxInt, 3), math.MaxInt, math.MaxInt, row(math.MaxInt, 4)},
		{row(math.MaxInt, 1, math.MinInt, 2, math.MaxInt, 3), math.MinInt, math.MaxInt, row(math.MaxInt, 1, math.MinInt, 2, math.MaxInt, 3)},
		{row(1<<32, 1, 0, 2, 1<<32+1, 3), 0, 1, row(0, 2)}, {row(1<<32, 1, 0, 2, 1<<32+1, 3), 1 << 32, 0, row(1<<32, 1, 0, 2)},
		// No ticks, and less.
		{row(0, 0), 0, 0, nil}, {row(0, -1, 1, 0), 0, 1, nil}, {row(0, least, 1, -5, 0, 0), 0, 1, nil}, {row(-1, 0, -1, -3), -1, -1, nil},
		{row(0, 1, 1, 0, 0, 2), 0, 1, row(0, 3)}, {row(0, 1, 1, -4, 0, 2), 0, 1, row(0, 3)}, {row(0, -1, 1, 4, 0, -2), 0, 1, row(1, 4)}, {row(0, 3, 0, -2, 0, least), 0, 5, row(0, 3)},
		// Held.
		{row(0, greatest, 0, 1), 0, 1, row(0, greatest)}, {row(0, greatest, 2, 7, 0, greatest), 0, 1, row(0, greatest)}, {row(0, 1<<62, 2, 1, 0, 1<<62), 0, 0, row(0, greatest)},
		{row(0, 1<<62, 2, 1, 0, 1<<62-1), 0, 0, row(0, greatest)}, {row(0, 1<<62, 2, 1, 0, 1<<62-2), 0, 0, row(0, greatest-1)},
		{row(0, greatest, 1, greatest, 0, 5), 0, 1, row(0, greatest, 1, greatest, 0, 5)}, {row(0, greatest, 1, greatest, 0, 5), 0, 0, row(0, greatest)},
		{row(-1, greatest, 1, least, -1, 1), -1, 1, row(-1, greatest)}, {row(9, greatest, 9, greatest), 9, 3, row(9, greatest)},
	} {
		if got := word.Project(x.l, x.a, x.b); !slices.Equal(got, x.want) {
			t.Errorf("Project(%v, %d, %d): %v, want %v", x.l, x.a, x.b, got, x.want)
		}
	}
}

// TestProjects: rows with runs of each kind, and each two numbers about those that are a partition's.
func TestProjects(t *testing.T) {
	rows := append(sample.Rows(), sample.Each([]api.Run{{Part: -2, N: 1}, {Part: -1, N: 2}, {Part: 0, N: 1}, {Part: 0, N: -1}, {Part: 1, N: 3}, {Part: 6, N: 2}}, 4)...)
	for _, l := range rows {
		for a := -3; a < 9; a++ {
			for b := -3; b < 9; b++ {
				got := word.Project(l, a, b)
				if want := project(l, a, b); !slices.Equal(got, want) {
					t.Fatalf("Project(%v, %d, %d): %v, want %v", l, a, b, got, want)
				}
				if runs.Ticks(got, a) != runs.Ticks(l, a) || runs.Ticks(got, b) != runs.Ticks(l, b) {
					t.Fatalf("Project(%v, %d, %d): %v, not all of the ticks", l, a, b, got)
				}
			}
		}
	}
}

func TestSwap(t *testing.T) {
	l := row(0, 1, 1, 2, 2, 3, 3, 4)
	for at, want := range map[int][]api.Run{
		0: row(1, 2, 0, 1, 2, 3, 3, 4), 1: row(0, 1, 2, 3, 1, 2, 3, 4), 2: row(0, 1, 1, 2, 3, 4, 2, 3),
		// The last one has none behind it.
		3: l, 4: l, 5: l, -1: l, -2: l, -4: l, 1 << 32: l, 1<<32 + 1: l, -1 << 32: l, math.MaxInt - 1: l, math.MaxInt: l, math.MinInt: l, math.MinInt + 1: l,
	} {
		if got := word.Swap(l, at); !slices.Equal(got, want) {
			t.Errorf("Swap at %d: %v", at, got)
		}
	}
	for _, at := range []int{math.MinInt, -2, -1, 0, 1, 2, math.MaxInt} {
		if len(word.Swap(nil, at)) > 0 || len(word.Swap([]api.Run{}, at)) > 0 {
			t.Errorf("Swap of no row at %d", at)
		}
		if got := word.Swap(row(4, 7), at); !slices.Equal(got, row(4, 7)) {
			t.Errorf("Swap of one run at %d: %v", at, got)
		}
	}
	// Run by run, whatever the runs are: nothing is tidied.
	for _, x := range [][2][]api.Run{
		{row(0, 1, 0, 2), row(0, 2, 0, 1)}, {row(0, 0, 1, 5), row(1, 5, 0, 0)}, {row(-1, 2, 0, -3), row(0, -3, -1, 2)}, {row(9, 1, -7, greatest), row(-7, greatest, 9, 1)},
		{row(0, 1, 1, 1, 0, 1), row(1, 1, 0, 1, 0, 1)}, {row(2, 2, 2, 2), row(2, 2, 2, 2)},
	} {
		if got := word.Swap(x[0], 0); !slices.Equal(got, x[1]) {
			t.Errorf("Swap(%v, 0): %v", x[0], got)
		}
	}
}

// TestSwaps: at each place of many rows, and about them: the two runs have changed places, the others stand, and done twice it is undone.
func TestSwaps(t *testing.T) {
	for _, l := range sample.Rows() {
		for at := -2; at <= len(l)+1; at++ {
			want := slices.Clone(l)
			if 0 <= at && at+1 < len(l) {
				want = slices.Concat(l[:at], l[at+1:at+2], l[at:at+1], l[at+2:])
			}
			got := word.Swap(l, at)
			if !slices.Equal(got, want) || !slices.Equal(word.Swap(got, at), l) {
				t.Fatalf("Swap(%v, %d): %v", l, at, got)
			}
		}
	}
}
