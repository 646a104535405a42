package word_test

import (
	"math"
	"slices"
	"testing"

	"horarium/api"
	"horarium/runs"
	"horarium/sample"
	"horarium/word"
)

// TestExamples: the chapter's run and its examples, of many rows by many dependences.
func TestExamples(t *testing.T) {
	turned := 0
	for _, l := range append(sample.Rows(), nil, spelt("a"), spelt("."), spelt("abc.def")) {
		for _, dep := range some() {
			is(t, l, l, dep, -1, -1, false)
			is(t, l, runs.Tidy(l), dep, -1, -1, false)
			for at := range max(0, len(l)-1) {
				if x, y := l[at].Part, l[at+1].Part; x != y && tied(dep)[[2]int{min(x, y), max(x, y)}] == 0 {
					is(t, l, word.Swap(l, at), dep, -1, -1, false)
					turned++
				}
			}
		}
	}
	if turned < 1000 {
		t.Errorf("no more than %d were turned about", turned)
	}
}

// TestTold: what Differ and Same tell of rows of each kind.
func TestTold(t *testing.T) {
	for _, x := range []struct {
		a, b string
		dep  string
		p, q int
		no   bool
	}{
		{"", "", "", -1, -1, false}, {"", "", "11 11", -1, -1, false}, {"abc", "abc", "111 111 111", -1, -1, false},
		// Unlike ticks: of one, of many, of one that nobody has to do with; idle ones.
		{"a", "", "", 0, 0, true}, {"f", "", "", 5, 5, true}, {"a", "aa", "1", 0, 0, true}, {"ab", "aab", "11 11", 0, 0, true}, {"ab", "abb", "", 1, 1, true}, {"abc", "ab", "", 2, 2, true},
		{"a", "b", "", 0, 0, true}, {"c", "b", "", 1, 1, true}, {"ef", "fd", "", 3, 3, true}, {"abcdef", "abcdeff", "", 5, 5, true}, {"aab", "abb", "", 0, 0, true},
		{".", "", "", -1, -1, true}, {"..", ".", "11 11", -1, -1, true}, {"ab", "a.b", "11 11", -1, -1, true}, {"a.b.", "a.b", "", -1, -1, true}, {".a", "a.", "1", -1, -1, false}, {"a..b", ".ab.", "11 11", -1, -1, false},
		// As many in all, though not of each.
		{"a.", "aa", "", 0, 0, true}, {"a.", "ab", "", 1, 1, true}, {".", "f", "", 5, 5, true}, {"a..", "a.b", "11 11", 0, 1, true},
		// Order.
		{"ab", "ba", "", -1, -1, false}, {"ab", "ba", "1. .1", -1, -1, false}, {"ab", "ba", "11 11", 0, 1, true}, {"aabb", "bbaa", "1. .1", -1, -1, false}, {"aabb", "abab", "11 11", 0, 1, true},
		{"aba", "aab", "11 11", 0, 1, true}, {"acb", "abc", "11. 11. ..1", -1, -1, false}, {"cab", "abc", "11. 11. ..1", -1, -1, false}, {"acb", "bca", "11. 11. ..1", 0, 1, true},
		{"abc", "cba", "1.. .11 .11", 1, 2, true}, {"abc", "cba", "1.1 .1. 1.1", 0, 2, true}, {"abc", "bca", "1.. .11 .11", -1, -1, false}, {"ef", "fe", "", -1, -1, false},
		{"a.b", "b.a", "11 11", 0, 1, true}, {"a.b", "b.a", "1. .1", -1, -1, false}, {"a.b", ".ab", "11 11", -1, -1, false},
		// One way alone.
		{"ab", "ba", ".1 ..", 0, 1, true}, {"ab", "ba", ".. 1.", 0, 1, true}, {"ac", "ca", "... ... 1..", 0, 2, true}, {"bc", "cb", "... ..1 ...", 1, 2, true}, {"bc", "cb", "... ... .1.", 1, 2, true},
		// Each depends on itself, whatever is said.
		{"aa", "a", ".. ..", 0, 0, true}, {"bb", "b", ".. ..", 1, 1, true}, {"ab", "a", ".", 1, 1, true},
		// Too small, too large, rows of unlike length.
		{"ab", "ba", "1", -1, -1, false}, {"ac", "ca", "11 11", -1, -1, false}, {"abc", "bac", "11 11", 0, 1, true}, {"ef", "fe", "1111 1111 1111 1111", -1, -1, false},
		{"ab", "ba", "11111111 11111111 11111111 11111111 11111111 11111111 11111111 11111111", 0, 1, true}, {"ab", "ba", "......11 ......11 ........ ........ ........ ........ 11111111 11111111", -1, -1, false},
		{"ab", "ba", ". 1", 0, 1, true}, {"ac", "ca", ". 1 ..", -1, -1, false}, {"ac", "ca", ". . 1", 0, 2, true}, {"bc", "cb", ". . .1", 1, 2, true}, {"bc", "cb", ". . 1", -1, -1, false}, {"ab", "ba", ".1 .", 0, 1, true},
		// What a row says of one that has no row of its own is said.
		{"ab", "ba", ".1", 0, 1, true}, {"af", "fa", ".....1", 0, 5, true}, {"ef", "fe", ".....1", -1, -1, false}, {"ad", "da", "..1 1", -1, -1, false}, {"ac", "ca", "..1 1", 0, 2, true},
	} {
		a, b, dep := spelt(x.a), spelt(x.b), square(x.dep)
		is(t, a, b, dep, x.p, x.q, x.no)
		is(t, b, a, dep, x.p, x.q, x.no)
		agree(t, a, b, dep)
	}
}

// TestFirst: where several differ: the least first one, of these the least second one.
func TestFirst(t *testing.T) {
	a, b := spelt("abcdef"), spelt("fedcba")
	for p := range 6 {
		for q := p + 1; q < 6; q++ {
			// This one, and all behind it.
			dep := pairs(6, func(x, y int) bool { return x < y && (x > p || x == p && y >= q) })
			is(t, a, b, dep, p, q, true)
			// Said the other way.
			is(t, a, b, pairs(6, func(x, y int) bool { return dep[y][x] }), p, q, true)
			// This one alone.
			is(t, a, b, pairs(6, func(x, y int) bool { return x == p && y == q }), p, q, true)
		}
	}
	full := pairs(6, func(x, y int) bool { return true })
	for p := range 6 {
		// One tick more of p: all that have to do with it can tell, 0 first; by itself it is p.
		more := append(spelt("abcdef"), api.Run{Part: p, N: 1})
		is(t, a, more, full, 0, p, true)
		is(t, a, more, nil, p, p, true)
		for q := range 6 {
			agree(t, a, more, pairs(6, func(x, y int) bool { return x == q || y == q }))
			agree(t, b, more, pairs(q, func(x, y int) bool { return x != y }))
		}
	}
	is(t, spelt("cd."), spelt("dc"), square("1... .1.. ..11 ..11"), 2, 3, true)
	is(t, spelt("ab."), spelt("b"), nil, 0, 0, true)
}

// TestNone: runs that are no partition's, and not idle, count for nothing.
func TestNone(t *testing.T) {
	full := pairs(12, func(x, y int) bool { return true })
	for _, dep := range append(some(), full) {
		for _, part := range []int64{-2, -3, 6, 7, 11, 1 << 31, 1 << 32, 1<<32 + 1, -1 << 32, math.MinInt32, math.MaxInt - 1, math.MaxInt, math.MinInt + 1, math.MinInt} {
			is(t, row(part, 3), nil, dep, -1, -1, false)
			is(t, nil, row(part, greatest, part, greatest), dep, -1, -1, false)
			is(t, row(part, 3), row(part, 4), dep, -1, -1, false)
			is(t, row(0, 2, 1, 1), row(0, 1, part, 5, 0, 1, 1, 1, part, 2), dep, -1, -1, false)
			is(t, row(0, 2, part, 1), row(part, 9, 0, 2), dep, -1, -1, false)
			is(t, row(0, 1, part, 1), row(0, 2), dep, 0, 0, true)
			is(t, row(-1, 1, part, 1), row(-1, 2), dep, -1, -1, true)
			is(t, row(-1, 1, part, 1, -1, 1), row(-1, 2), dep, -1, -1, false)
		}
	}
	is(t, row(6, 1, 7, 1), row(7, 1, 6, 1), full, -1, -1, false)
}

// TestTicks: ticks count, not runs.
func TestTicks(t *testing.T) {
	full := pairs(6, func(x, y int) bool { return true })
	for _, x := range [][2][]api.Run{
		{row(1, 2, 1, 3), row(1, 5)}, {row(1, 5), row(1, 5, 2, 0)}, {row(1, 5, 2, -4, 1, 1), row(1, 6)}, {row(0, 0), nil}, {row(-1, -3, 0, least), nil}, {row(-1, 2, -1, 2), row(-1, 4)},
		{row(0, 1, 1, 0, 0, 1, 1, 1), row(0, 2, 1, 1)}, {row(0, 1, -1, 2, 0, 1), row(0, 2, -1, 2)},
		// Held.
		{row(0, greatest, 0, 1), row(0, greatest)}, {row(0, 1<<62, 0, 1<<62), row(0, greatest)}, {row(-1, greatest, -1, greatest), row(-1, greatest)}, {row(0, 1<<62, -1, 3, 0, 1<<62), row(-1, 3, 0, greatest)},
		{row(0, greatest, 1, greatest), row(0, greatest, 1, greatest, -1, -1)}, {row(3, greatest, 3, 7, 4, 1), row(3, greatest, 4, 1)},
	} {
		for _, dep := range append(some(), full) {
			is(t, x[0], x[1], dep, -1, -1, false)
			is(t, x[1], x[0], dep, -1, -1, false)
		}
	}
	is(t, row(0, greatest), row(0, greatest-1), full, 0, 0, true)
	is(t, row(-1, greatest), row(-1, greatest-1), full, -1, -1, true)
	is(t, row(-1, greatest, 6, 1), row(-1, greatest-1, 6, 1), full, -1, -1, true)
	// Idle ticks differ, though the sum of all is held.
	is(t, row(0, greatest), row(0, greatest, -1, 5), full, -1, -1, true)
	is(t, row(0, greatest, -1, 4, 1, greatest), row(0, greatest, 1, greatest, -1, 5), nil, -1, -1, true)
	is(t, row(0, greatest, -1, 4, 1, greatest), row(-1, 2, 0, greatest, 1, greatest, -1, 2), full, -1, -1, false)
	is(t, row(0, greatest, 1, 1), row(1, 1, 0, greatest), full, 0, 1, true)
	is(t, row(0, greatest, 1, 1), row(1, 1, 0, greatest), nil, -1, -1, false)
}

// TestRows: each two of up to so many runs, and of many that are drawn, one of them the other with runs moved.
func TestRows(t *testing.T) {
	few := sample.Each([]api.Run{{Part: -1, N: 1}, {Part: 0, N: 1}, {Part: 1, N: 2}, {Part: 2, N: 1}, {Part: 6, N: 1}, {Part: 0, N: -1}}, 2)
	for _, dep := range append(some(), squares(3)...) {
		for _, a := range few {
			for _, b := range few {
				agree(t, a, b, dep)
			}
		}
	}
	deps, rows := some(), sample.Rows()
	for i, l := range rows {
		for j := range 40 {
			dep := deps[(i+j)%len(deps)]
			m := slices.Clone(l)
			for k := range j {
				m = word.Swap(m, (i+k*k*7)%(len(m)+1))
			}
			agree(t, l, m, dep)
			agree(t, l, l[:len(l)*j/40], dep)
			agree(t, m, rows[(i*7+j)%len(rows)], dep)
		}
	}
}

// TestGreat: a great many runs, and a dependence of a great many.
func TestGreat(t *testing.T) {
	const many = 1 << 18
	l := slices.Repeat(spelt("ab.c"), many)
	dep := pairs(1000, func(x, y int) bool { return x+y == 1 })
	is(t, l, slices.Repeat(spelt("a.cb"), many), dep, -1, -1, false)
	is(t, l, slices.Repeat(spelt("ba.c"), many), dep, 0, 1, true)
	is(t, l, append(slices.Clone(l), spelt("cc")...), dep, 2, 2, true)
	is(t, l, append(slices.Clone(l), spelt(".")...), dep, -1, -1, true)
	if got := word.Project(l, 0, 2); len(got) != 2*many {
		t.Errorf("Project of many: %d", len(got))
	}
	if got := word.Swap(l, 4*many-2); got[4*many-1].Part != -1 || got[4*many-2].Part != 2 {
		t.Errorf("Swap of the last of many: %v", got[4*many-3:])
	}
}
