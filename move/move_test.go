package move_test

import (
	"math"
	"slices"
	"testing"

	"horarium/api"
	"horarium/move"
	"horarium/runs"
	"horarium/sample"
)

// TestExamples: the chapter's run and its examples.
func TestExamples(t *testing.T) {
	for _, dep := range some() {
		for _, one := range []api.Run{{Part: 0, N: 5}, {Part: -1, N: 1}, {Part: 5, N: 4096}, {Part: 7, N: 1}, {Part: 0, N: 0}, {Part: 1, N: -3}} {
			if got := move.All([]api.Run{one}, dep); len(got) > 0 {
				t.Errorf("All of one run %v: %v", one, got)
			}
		}
		for i := -1; i < 4; i++ {
			mays(t, spelt("aaa"), dep, i, i, false)
		}
	}
	for _, l := range [][]api.Run{nil, {}, row(0, 1), row(0, 1, 0, 2), row(1, 0, 0, -3, 0, 4)} {
		for _, m := range []move.Move{left(0, 9), right(0, 9), left(-1, 0), right(2, 1), left(0, 0), right(9, 12)} {
			does(t, l, m, l)
		}
	}
}

// TestMay: two places, and whether the one's run may go to the other.
func TestMay(t *testing.T) {
	for _, x := range []struct {
		l, dep string
		i, j   int
		want   bool
	}{
		{"aba", "1. .1", 0, 2, true}, {"aba", "11 11", 0, 2, false}, {"aba", "", 0, 2, true}, {"aa", "", 0, 1, true}, {"aa", "11 11", 0, 1, true}, {"aa", "1", 0, 1, true},
		// Of two Parts.
		{"ab", "", 0, 1, false}, {"abc", "", 0, 2, false}, {"a.", "", 0, 1, false}, {".a", "", 0, 1, false}, {"a.b", "", 0, 2, false}, {"abab", "", 0, 3, false},
		// One of the same Part between.
		{"aaa", "", 0, 2, false}, {"aba.a", "", 0, 4, false}, {"aba.a", "", 0, 2, true}, {"aba.a", "", 2, 4, true}, {"...", "", 0, 2, false}, {".a.b.", "", 0, 4, false}, {"abcab", "", 0, 3, true}, {"abcab", "", 1, 4, true}, {"abcab", "", 0, 4, false},
		// Idle ones between, and others that do not depend; one that does, first, last, in the middle.
		{"a.a", "11 11", 0, 2, true}, {"a..a", "11 11", 0, 3, true}, {"a.b.a", "1. .1", 0, 4, true}, {"a.b.a", "11 11", 0, 4, false}, {"abcda", "1... .111 .111 .111", 0, 4, true},
		{"abcda", "11.. 11.. ..1. ...1", 0, 4, false}, {"abcda", "1.1. .1.. 1.1. ...1", 0, 4, false}, {"abcda", "1..1 .1.. ..1. 1..1", 0, 4, false}, {"fef", "...... ...... ...... ...... ....11 ....11", 0, 2, false}, {"fef", "...... ...... ...... ...... ....1. .....1", 0, 2, true},
		// Idle at both ends: whatever is between.
		{".a.", "1", 0, 2, true}, {".ab.", "11 11", 0, 3, true}, {".abcdef.", "111111 111111 111111 111111 111111 111111", 0, 7, true}, {"..", "", 0, 1, true}, {"..", "11 11", 0, 1, true},
		// That those between depend on each other is nothing to the one that goes.
		{"abca", "1.. .11 .11", 0, 3, true}, {"abcba", "1.. .11 .11", 0, 4, true}, {"abcb", "1.. .1. ..1", 1, 3, true}, {"abcb", "1.. .11 .11", 1, 3, false},
		// What is not between counts for nothing.
		{"babab", "1. .1", 1, 3, true}, {"babab", "11 11", 1, 3, false}, {"baa", "11 11", 1, 2, true}, {"aab", "11 11", 0, 1, true}, {"ba.ab", "11 11", 1, 3, true}, {"aa.a", "", 1, 3, true},
		// One way alone.
		{"aba", ".1 ..", 0, 2, false}, {"aba", ".. 1.", 0, 2, false}, {"bab", ".1 ..", 0, 2, false}, {"bab", ".. 1.", 0, 2, false}, {"aca", "... ... 1..", 0, 2, false}, {"aba", "... ... 1..", 0, 2, true}, {"cbc", "... ..1 ...", 0, 2, false},
		// Itself is no matter.
		{"aba", ".. ..", 0, 2, true}, {"aa", ".", 0, 1, true},
		// Too small; rows of unlike length.
		{"aba", "1", 0, 2, true}, {"bab", "1", 0, 2, true}, {"aca", "11 11", 0, 2, true}, {"cac", "11 11", 0, 2, true}, {"cdc", "11 11", 0, 2, true}, {"aba", ". 1", 0, 2, false}, {"bab", ". 1", 0, 2, false}, {"aca", ". . 1", 0, 2, false}, {"bcb", ". . 1", 0, 2, true}, {"bcb", ". . .1", 0, 2, false}, {"aba", ".1", 0, 2, false}, {"bab", ".1", 0, 2, false}, {"cbc", ".1", 0, 2, true}, {"faf", ".....1", 0, 2, false},
		// No places, or not rising.
		{"aba", "", 2, 0, false}, {"aba", "", 0, 0, false}, {"aba", "", 1, 1, false}, {"aba", "", 2, 2, false}, {"aba", "", -1, 0, false}, {"aba", "", -1, 2, false}, {"aba", "", -3, -1, false}, {"aba", "", 0, 3, false}, {"aba", "", 2, 3, false}, {"aba", "", 0, -1, false}, {"aba", "", 3, 5, false}, {"aba", "", 3, 3, false}, {"aa", "", 1, 0, false}, {"aa", "", 1, 2, false}, {"", "", 0, 1, false}, {"", "", 0, 0, false}, {"", "", -1, 0, false}, {"", "", -1, 1, false},
	} {
		mays(t, spelt(x.l), square(x.dep), x.i, x.j, x.want)
		agree(t, spelt(x.l), square(x.dep))
	}
}

// TestTies: of two partitions at each number and one between: just as dep says of these two, either way.
func TestTies(t *testing.T) {
	for a := range 9 {
		for b := range 9 {
			if a == b {
				continue
			}
			l := row(int64(a), 1, int64(b), 1, int64(a), 1)
			one := pairs(9, func(x, y int) bool { return x == a && y == b })
			other := pairs(9, func(x, y int) bool { return x == b && y == a })
			mays(t, l, one, 0, 2, false)
			mays(t, l, other, 0, 2, false)
			mays(t, l, pairs(9, func(x, y int) bool { return one[x][y] || other[x][y] }), 0, 2, false)
			mays(t, l, pairs(9, func(x, y int) bool { return !one[x][y] && !other[x][y] }), 0, 2, true)
			// No more than these two have, or one of them.
			mays(t, l, pairs(max(a, b)+1, func(x, y int) bool { return true }), 0, 2, false)
			mays(t, l, pairs(max(a, b), func(x, y int) bool { return true }), 0, 2, true)
			mays(t, l, one[:a+1], 0, 2, false)
			mays(t, l, one[:a], 0, 2, true)
		}
	}
}

// TestNone: numbers that are no partition's, and not idle: dep has them not, unless it is so large.
func TestNone(t *testing.T) {
	full := pairs(9, func(x, y int) bool { return true })
	for _, n := range append(odd(), -7, 9, 10) {
		p := int(n)
		mays(t, row(n, 1, 0, 1, n, 1), full, 0, 2, true)
		mays(t, row(0, 1, n, 1, 0, 1), full, 0, 2, true)
		mays(t, row(n, 1, 0, 1, -1, 1, n, 1), full, 0, 3, true)
		mays(t, row(-1, 1, n, 1, -1, 1), full, 0, 2, true)
		mays(t, row(n, 1, n, 1), full, 0, 1, true)
		mays(t, row(n, 1, n, 1, n, 1), full, 0, 2, false)
		mays(t, row(n, 1, n, 1), nil, 0, 1, true)
		mays(t, row(n, 1, 0, 1), full, 0, 1, false)
		mays(t, row(n, 1, int64(p/2), 1, n, 1), full, 0, 2, true)
		mays(t, row(0, 1, n, 1, 1, 1, 0, 1), full, 0, 3, false)
		does(t, row(n, 1, 0, 1, n, 2), left(0, 2), row(n, 3, 0, 1))
		does(t, row(n, 1, 0, 1, n, 2), right(0, 2), row(0, 1, n, 3))
	}
}

// TestPlaces: places of any number.
func TestPlaces(t *testing.T) {
	numbers := append(odd(), -1, 0, 1, 2, 3, 4, 5, 1<<32+2, math.MaxInt-2)
	for _, l := range [][]api.Run{nil, {}, spelt("aba"), spelt("a.a"), spelt("..."), spelt("aaaa"), row(0, 1, 0, 2, 1, -1)} {
		for _, n := range numbers {
			for _, k := range numbers {
				for _, m := range both(int(n), int(k)) {
					does(t, l, m, do(l, m))
					mays(t, l, nil, m.I, m.J, may(l, nil, m))
				}
			}
		}
	}
}

// TestDo: two places, and the row that Do makes of it, to the left and to the right.
func TestDo(t *testing.T) {
	l := row(0, 1, 2, 2, 0, 3, 1, 4)
	for _, x := range []struct {
		l, left, right []api.Run
		i, j           int
	}{
		{l, row(0, 4, 2, 2, 1, 4), row(2, 2, 0, 4, 1, 4), 0, 2},
		// Of two Parts: that of the place is put.
		{l, row(0, 6, 1, 4), row(2, 3, 0, 3, 1, 4), 0, 1}, {l, row(0, 5, 2, 2, 0, 3), row(2, 2, 0, 3, 1, 5), 0, 3}, {l, row(0, 1, 2, 5, 1, 4), row(0, 6, 1, 4), 1, 2}, {l, row(0, 1, 2, 6, 0, 3), row(0, 4, 1, 6), 1, 3}, {l, row(0, 1, 2, 2, 0, 7), row(0, 1, 2, 2, 1, 7), 2, 3},
		{row(-1, 1, 0, 2), row(-1, 3), row(0, 3), 0, 1}, {row(9, 1, -7, 2), row(9, 3), row(-7, 3), 0, 1},
		// What comes to stand beside its like is one with it, at the place, and where the other was.
		{spelt("aba"), row(0, 2, 1, 1), row(1, 1, 0, 2), 0, 2}, {spelt("babab"), row(1, 1, 0, 2, 1, 2), row(1, 2, 0, 2, 1, 1), 1, 3}, {spelt("abcba"), row(0, 2, 1, 1, 2, 1, 1, 1), row(1, 1, 2, 1, 1, 1, 0, 2), 0, 4}, {spelt("abcb"), row(0, 1, 1, 2, 2, 1), row(0, 1, 2, 1, 1, 2), 1, 3}, {spelt(".a.a."), row(-1, 1, 0, 2, -1, 2), row(-1, 2, 0, 2, -1, 1), 1, 3}, {spelt("ab.ab"), row(0, 1, 1, 2, -1, 1, 0, 1), row(0, 1, -1, 1, 0, 1, 1, 2), 1, 4},
		// Runs side by side; the whole row is tidied, not at the places alone.
		{row(0, 1, 0, 2), row(0, 3), row(0, 3), 0, 1}, {row(0, 1, 0, 2, 0, 4), row(0, 7), row(0, 7), 0, 1}, {row(0, 1, 0, 2, 0, 4), row(0, 7), row(0, 7), 0, 2}, {row(2, 1, 2, 1, 0, 1, 1, 1, 0, 1, 1, 0, 2, 3, 2, 4), row(2, 2, 0, 2, 1, 1, 2, 7), row(2, 2, 1, 1, 0, 2, 2, 7), 2, 4},
		// An N below 1 counts as 0, at one of them, at both, and elsewhere.
		{row(0, 0, 1, 1, 0, 3), row(0, 3, 1, 1), row(1, 1, 0, 3), 0, 2}, {row(0, 3, 1, 1, 0, 0), row(0, 3, 1, 1), row(1, 1, 0, 3), 0, 2}, {row(0, -5, 1, 1, 0, 3), row(0, 3, 1, 1), row(1, 1, 0, 3), 0, 2}, {row(0, 3, 1, 1, 0, -5), row(0, 3, 1, 1), row(1, 1, 0, 3), 0, 2}, {row(0, least, 1, 1, 0, 3), row(0, 3, 1, 1), row(1, 1, 0, 3), 0, 2}, {row(0, 3, 1, 1, 0, least), row(0, 3, 1, 1), row(1, 1, 0, 3), 0, 2},
		{row(0, 0, 1, 1, 0, 0), row(1, 1), row(1, 1), 0, 2}, {row(0, -1, 1, 1, 0, 0), row(1, 1), row(1, 1), 0, 2}, {row(0, -4, 1, 1, 0, -7), row(1, 1), row(1, 1), 0, 2}, {row(0, least, 1, 1, 0, least), row(1, 1), row(1, 1), 0, 2}, {row(0, least, 0, greatest), row(0, greatest), row(0, greatest), 0, 1}, {row(0, -1, 0, -1), nil, nil, 0, 1}, {row(2, 1, 0, -1, 2, 1, 0, -1, 2, 1), row(2, 3), row(2, 3), 1, 3},
		{row(0, 1, 1, 0, 0, 3, 2, -6), row(0, 4), row(0, 4), 0, 2}, {row(3, 0, 0, 1, 1, 1, 0, 3, 2, -6), row(0, 4, 1, 1), row(1, 1, 0, 4), 1, 3}, {row(0, -2, 1, 7), row(0, 7), row(1, 7), 0, 1}, {row(0, 7, 1, -2), row(0, 7), row(1, 7), 0, 1},
		// Held.
		{row(0, greatest, 1, 1, 0, 3), row(0, greatest, 1, 1), row(1, 1, 0, greatest), 0, 2}, {row(0, greatest, 1, 1, 0, greatest), row(0, greatest, 1, 1), row(1, 1, 0, greatest), 0, 2}, {row(0, 1<<62, 1, 1, 0, 1<<62), row(0, greatest, 1, 1), row(1, 1, 0, greatest), 0, 2}, {row(0, 1<<62, 1, 1, 0, 1<<62-1), row(0, greatest, 1, 1), row(1, 1, 0, greatest), 0, 2}, {row(0, 1<<62, 1, 1, 0, 1<<62-2), row(0, greatest-1, 1, 1), row(1, 1, 0, greatest-1), 0, 2}, {row(0, greatest, 0, 1, 0, 1), row(0, greatest), row(0, greatest), 0, 1}, {row(0, greatest-1, 1, 1, 0, 1, 0, 5), row(0, greatest, 1, 1, 0, 5), row(1, 1, 0, greatest), 0, 2},
	} {
		does(t, x.l, left(x.i, x.j), x.left)
		does(t, x.l, right(x.i, x.j), x.right)
		// The places the other way round are none: the row as it is.
		does(t, x.l, left(x.j, x.i), x.l)
		does(t, x.l, right(x.j, x.i), x.l)
	}
}

// TestAll: rows, and all their moves.
func TestAll(t *testing.T) {
	for _, x := range []struct {
		l, dep string
		places [][2]int
	}{
		{"", "", nil}, {"a", "", nil}, {".", "", nil}, {"ab", "", nil}, {"abcdef.", "", nil}, {"aba", "11 11", nil}, {"abab", "11 11", nil},
		{"aa", "11 11", [][2]int{{0, 1}}}, {"..", "", [][2]int{{0, 1}}}, {"aaa", "", [][2]int{{0, 1}, {1, 2}}}, {"....", "1", [][2]int{{0, 1}, {1, 2}, {2, 3}}},
		{"aba", "", [][2]int{{0, 2}}}, {"abab", "", [][2]int{{0, 2}, {1, 3}}}, {"abba", "", [][2]int{{0, 3}, {1, 2}}}, {"abba", "11 11", [][2]int{{1, 2}}}, {"abcabc", "", [][2]int{{0, 3}, {1, 4}, {2, 5}}}, {"abcabc", "11. 11. ..1", [][2]int{{2, 5}}}, {"abccba", "11. 11. ..1", [][2]int{{1, 4}, {2, 3}}},
		{"a.a.", "11 11", [][2]int{{0, 2}, {1, 3}}}, {".a.b.a", "11 11", [][2]int{{0, 2}, {2, 4}}}, {".a.b.a", "1. .1", [][2]int{{0, 2}, {1, 5}, {2, 4}}}, {"a.ba.", "11 11", [][2]int{{1, 4}}}, {"acbca", ".1. 1.. ...", [][2]int{{1, 3}}},
		{"aaba", "11 11", [][2]int{{0, 1}}}, {"aaba", "", [][2]int{{0, 1}, {1, 3}}}, {"fabcdef", "", [][2]int{{0, 6}}}, {"fabcdef", "..... ..... ..... ..... .....1", nil},
	} {
		var want []move.Move
		for _, at := range x.places {
			want = append(want, both(at[0], at[1])...)
		}
		if got := move.All(spelt(x.l), square(x.dep)); !slices.Equal(got, want) {
			t.Errorf("All(%s, %s): %v, want %v", x.l, x.dep, got, want)
		}
		agree(t, spelt(x.l), square(x.dep))
	}
}

// TestRows: each row of up to so many runs of each kind, and many that are drawn, by dependences of all kinds.
func TestRows(t *testing.T) {
	deps := append(some(), squares(3)...)
	few := sample.Each(row(-1, 1, -1, 0, 0, 2, 0, -1, 1, 1, 2, 0, 2, 3), 3)
	for _, l := range few {
		doing(t, l)
		for _, dep := range deps {
			agree(t, l, dep)
		}
	}
	for _, l := range sample.Each([]byte(".abc"), 5) {
		doing(t, spelt(string(l)))
		for _, dep := range squares(3) {
			agree(t, spelt(string(l)), dep)
		}
	}
	for i, l := range sample.Rows() {
		doing(t, l)
		agree(t, l, nil)
		for k := range 5 {
			agree(t, l, deps[(i+k*11)%len(deps)])
		}
		agree(t, runs.Tidy(l), deps[i%len(deps)])
	}
}

// TestFrames: rows as long as a frame may be.
func TestFrames(t *testing.T) {
	for i, l := range sample.Frames() {
		for at, m := range each(l) {
			// Some alone, for each is reckoned tick by tick.
			if at%17 == 0 {
				does(t, l, m, do(l, m))
			}
		}
		for k := range 3 {
			agree(t, l, some()[(i*3+k)%len(some())])
			agree(t, l, squares(4)[(i*13+k*7)%64])
		}
	}
	agree(t, slices.Repeat(spelt("abcdef."), 13)[:90], nil)
	agree(t, slices.Repeat(spelt("."), 96), nil)
}

// TestTidied: what Do makes of two places is tidy, whatever the row was.
func TestTidied(t *testing.T) {
	for _, l := range sample.Rows() {
		for _, m := range each(l) {
			got := move.Do(l, m)
			if 0 <= m.I && m.I < m.J && m.J < len(l) && !slices.Equal(got, runs.Tidy(got)) {
				t.Fatalf("Do(%s, %v): %s is not tidy", short(l), m, short(got))
			}
		}
	}
}
