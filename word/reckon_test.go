package word_test

import (
	"math"
	"slices"
	"testing"

	"horarium/api"
	"horarium/sample"
	"horarium/word"
)

// Short names of what sample makes.
var (
	row           = sample.Row
	spelt         = sample.Spelt
	square, pairs = sample.Square, sample.Pairs
	some, squares = sample.Dependences, sample.Squares
	picture       = sample.Picture
	short         = sample.Short
	roomy         = sample.Roomy[api.Run]
	whole         = sample.Whole[api.Run]
)

const (
	greatest = math.MaxInt64
	least    = math.MinInt64
)

// letters is a letter for each tick of l that is idle or a partition's, and whose it is: another way than the package's, which counts by runs.
func letters(l []api.Run, whose ...int) string {
	var out []byte
	for _, x := range l {
		for range x.N {
			if slices.Contains(whose, x.Part) {
				out = append(out, ".abcdef"[x.Part+1])
			}
		}
	}
	return string(out)
}

// tied is what dep says, each both ways, as far as it is of partitions.
func tied(dep [][]bool) map[[2]int]int {
	out := map[[2]int]int{}
	for p := range 6 {
		out[[2]int{p, p}] = 1
	}
	for a, r := range dep {
		for b, is := range r {
			if is && a < 6 && b < 6 {
				out[[2]int{min(a, b), max(a, b)}] = 1
			}
		}
	}
	return out
}

// differ is what Differ must answer, of rows of not too many ticks: of all tied two to which the ticks are not the same the least ones.
func differ(a, b []api.Run, dep [][]bool) (int, int, bool) {
	best := [2]int{9, 9}
	for two := range tied(dep) {
		if letters(a, two[:]...) != letters(b, two[:]...) && slices.Compare(two[:], best[:]) < 0 {
			best = two
		}
	}
	if best[0] < 9 {
		return best[0], best[1], true
	}
	all := []int{-1, 0, 1, 2, 3, 4, 5}
	return -1, -1, len(letters(a, all...)) != len(letters(b, all...))
}

// agree: Differ and Same of a and b answer what the second reckoning does, whichever comes first.
func agree(t *testing.T, a, b []api.Run, dep [][]bool) {
	t.Helper()
	x, y, no := differ(a, b, dep)
	is(t, a, b, dep, x, y, no)
	is(t, b, a, dep, x, y, no)
}

// is: Differ of a and b answers x, y, no, and Same what follows from it.
func is(t *testing.T, a, b []api.Run, dep [][]bool, x, y int, no bool) {
	t.Helper()
	if p, q, got := word.Differ(a, b, dep); p != x || q != y || got != no {
		t.Fatalf("Differ(%s, %s, %.300s): %d, %d, %v, want %d, %d, %v", short(a), short(b), picture(dep), p, q, got, x, y, no)
	}
	if word.Same(a, b, dep) == no {
		t.Fatalf("Same(%s, %s, %.300s): %v", short(a), short(b), picture(dep), !no)
	}
}
