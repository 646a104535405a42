package fold_test

import (
	"math"
	"slices"
	"strings"
	"testing"

	"horarium/api"
	"horarium/fold"
	"horarium/runs"
	"horarium/sample"
)

// letters is runs of one tick: a, b and so on are partitions, a point is idle.
func letters(s string) []api.Run {
	var out []api.Run
	for _, c := range []byte(s) {
		part := int(c) - 'a'
		if c == '.' {
			part = -1
		}
		out = append(out, api.Run{Part: part, N: 1})
	}
	return out
}

// unlike is so many runs, of which no two are the same.
func unlike(how int) []api.Run {
	out := make([]api.Run, how)
	for i := range out {
		out[i] = api.Run{Part: i % 3, N: int64(1 + i/3)}
	}
	return out
}

// wrong are rows that runs.Right refuses, each for a reason of its own.
func wrong() [][]api.Run {
	out := [][]api.Run{
		nil, {},
		slices.Repeat(row(0, 1, 1, 1), 49), slices.Repeat(row(0, 1), 97), unlike(97), make([]api.Run, 200),
		row(0, 4000, 1, 97), row(0, 2048, 0, 2049), slices.Repeat(row(0, 43, 1, 43), 48), row(-1, 4096, 0, 1),
		row(0, math.MaxInt64, 1, math.MaxInt64, 0, 6),
	}
	for _, n := range []int64{0, -1, -4096, math.MinInt64, 4097, 1 << 32, 1<<32 + 1, math.MaxInt64} {
		out = append(out, row(0, n), row(-1, n), row(0, n, 1, 1), row(0, 1, 1, 1, 0, n), slices.Repeat(row(0, n), 3), slices.Repeat(row(0, 1, 1, n), 3))
	}
	for _, part := range []int64{-2, -3, 6, 7, 128, 1 << 32, 1<<32 - 1, math.MaxInt64, math.MinInt64} {
		out = append(out, row(part, 1), row(part, 1, 0, 1), row(0, 1, 1, 1, part, 1), slices.Repeat(row(part, 1), 3), slices.Repeat(row(0, 1, part, 1), 3))
	}
	return out
}

// TestExamples: the chapter's run and its examples.
func TestExamples(t *testing.T) {
	if got := fold.Period(row(0, 1, 1, 1, 0, 1, 1, 1)); got != 2 {
		t.Errorf("Period((0, 1), (1, 1), (0, 1), (1, 1)): %d", got)
	}
	for _, l := range [][]api.Run{nil, {}} {
		if at, p, n := fold.Best(l); at != 0 || p != 0 || n != 0 {
			t.Errorf("Best(nothing): %d, %d, %d", at, p, n)
		}
		if got := fold.Period(l); got != 0 {
			t.Errorf("Period(nothing): %d", got)
		}
	}
	if got := fold.Table(row(3, 7)); !slices.Equal(got, window(3, 7)) {
		t.Errorf("Table of one run: %v", got)
	}
}

func TestPlain(t *testing.T) {
	for _, c := range []struct {
		l    []api.Run
		want []api.Node
	}{
		{row(0, 1), window(0, 1)},
		{row(5, 4096), window(5, 4096)},
		{row(-1, 1), idle(1)},
		{row(-1, 4096), idle(4096)},
		{row(0, 4, -1, 1, 1, 2), seq(window(0, 4), idle(1), window(1, 2))},
		{row(-1, 3, 2, 1), seq(idle(3), window(2, 1))},
		// Not tidy: a leaf for each run all the same.
		{row(0, 4, 0, 5), seq(window(0, 4), window(0, 5))},
		{row(-1, 2, -1, 2), seq(idle(2), idle(2))},
		{letters("ababab"), seq(window(0, 1), window(1, 1), window(0, 1), window(1, 1), window(0, 1), window(1, 1))},
		{slices.Repeat(row(2, 42), 96), wide(96, window(2, 42))},
		{slices.Repeat(row(-1, 1), 96), wide(96, idle(1))},
	} {
		if got := fold.Plain(c.l); !slices.Equal(got, c.want) {
			t.Errorf("Plain(%.300v): %.300v", c.l, got)
		}
		agree(t, c.l)
	}
	if got := fold.Plain(unlike(96)); len(got) != 97 || got[0] != (api.Node{Kind: api.Seq, N: 96}) {
		t.Errorf("Plain of 96 runs: %v", got)
	}
}

// TestWrong: of rows that are not right there is no table; Best and Period are of any.
func TestWrong(t *testing.T) {
	for _, l := range wrong() {
		if runs.Right(l) {
			t.Errorf("%.300v is right", l)
		}
		if got := fold.Plain(l); len(got) > 0 {
			t.Errorf("Plain(%.300v): %.300v", l, got)
		}
		if got := fold.Table(l); len(got) > 0 {
			t.Errorf("Table(%.300v): %.300v", l, got)
		}
		agree(t, l)
	}
}

func TestPeriod(t *testing.T) {
	for s, want := range map[string]int{
		"": 0, "a": 1, ".": 1, "aa": 1, "aaa": 1, "ab": 2, "abab": 2, "ababab": 2, "aba": 3, "ababa": 5, "aab": 3, "aabaab": 3, "aabaabaa": 8, "abaabaaba": 3, "abcabc": 3, "abcdabcdab": 10,
		"a.a.": 2, "..": 1, "abcabd": 6, "abababac": 8, "bbabab": 6, "aaaaaab": 7, "abbabb": 3, "aabb": 4, "abababababab": 2, "aabaabaabaab": 3,
	} {
		if got := fold.Period(letters(s)); got != want {
			t.Errorf("Period of %q: %d, want %d", s, got, want)
		}
		agree(t, letters(s))
	}
	for _, c := range []struct {
		l    []api.Run
		want int
	}{
		{row(0, 1, 0, 2), 2}, {row(0, 1, 0, 2, 0, 1, 0, 2), 2}, {row(0, 1, 1, 1, 0, 1, 1, 2), 4}, {row(-1, 1, 0, 1), 2}, {row(-1, 2, -1, 2), 1},
		// Any runs are held against each other, whatever they are.
		{row(0, 0, 0, 0), 1}, {row(0, 0, 0, -1), 2}, {row(-9, 1, 7, -5, -9, 1, 7, -5), 2}, {row(0, math.MaxInt64, 0, math.MaxInt64), 1}, {row(0, 1, 0, 1<<32+1), 2}, {row(0, 1, 1<<32, 1), 2},
	} {
		if got := fold.Period(c.l); got != c.want {
			t.Errorf("Period(%v): %d, want %d", c.l, got, c.want)
		}
		agree(t, c.l)
	}
}

// TestPeriods: rows that are one row so many times, and rows that nearly are.
func TestPeriods(t *testing.T) {
	for _, one := range []string{"a", ".", "ab", "a.b", "aab", "abac", "abcde", "aabaac"} {
		for n := 1; n <= 6; n++ {
			l := letters(strings.Repeat(one, n))
			if got := fold.Period(l); got != len(one) {
				t.Errorf("Period of %d times %q: %d", n, one, got)
			}
			nearly(t, l, len(one))
		}
	}
}

// nearly: l, whose period is p, is not of the period p with one run unlike, one less or one more.
func nearly(t *testing.T, l []api.Run, p int) {
	t.Helper()
	for at := range l {
		for _, x := range []api.Run{{Part: l[at].Part, N: 2}, {Part: 5, N: 1}, {Part: 1<<32 + l[at].Part, N: 1}} {
			other := slices.Clone(l)
			other[at] = x
			if got := fold.Period(other); len(l) > p && got <= p {
				t.Errorf("Period of %v, unlike at %d: %d", l, at, got)
			}
			agree(t, other)
		}
	}
	for _, other := range [][]api.Run{l[1:], l[:len(l)-1], append(slices.Clone(l), l[0])} {
		if got := fold.Period(other); p > 1 && len(l) > p && len(other) > p && got <= p {
			t.Errorf("Period of %v: %d", other, got)
		}
		agree(t, other)
	}
}

func TestBest(t *testing.T) {
	for s, want := range map[string][3]int{
		// Nothing is saved.
		"": {}, "a": {}, "aa": {}, "..": {}, "ab": {}, "abab": {}, "a.a.": {}, "abcabd": {}, "aabb": {}, "abba": {}, "abacaba": {}, "abcdef": {},
		// The least that is saved.
		"aaa": {0, 1, 3}, "...": {0, 1, 3}, "ababab": {0, 2, 3}, "abcabc": {0, 3, 2},
		// The most times that go.
		"aaaaaaa": {0, 1, 7}, "abababab": {0, 2, 4}, "abaabaaba": {0, 3, 3}, "abcabcabcabc": {0, 3, 4},
		// In the midst, and at the end.
		"baaab": {1, 1, 3}, "cabababd": {1, 2, 3}, "abcbbbb": {3, 1, 4}, "dabcabcd": {1, 3, 2}, "dabcdabce": {0, 4, 2}, "eabcabcf": {1, 3, 2}, "babcabcab": {1, 3, 2},
		// Beyond the last whole time the row goes on.
		"abababa": {0, 2, 3}, "abcabca": {0, 3, 2}, "abcabcab": {0, 3, 2}, "cabcabcab": {0, 3, 3}, "abcdabcdabc": {0, 4, 2},
		// As much is saved: the least place, whichever p.
		"aaabbb": {0, 1, 3}, "abcabcdefdef": {0, 3, 2}, "abcabcddd": {0, 3, 2}, "dddabcabc": {0, 1, 3}, "ababcbcbdb": {0, 0, 0}, "abcdabcdeeee": {0, 4, 2}, "eeeeabcdabcd": {0, 1, 4}, "abababcdcdcd": {0, 2, 3}, "fabababcdcdcd": {1, 2, 3},
		// More is saved behind.
		"aaabbbb": {3, 1, 4}, "abcabcdddd": {6, 1, 4}, "aaabcdebcde": {3, 4, 2}, "abababcabcabc": {4, 3, 3}, "aaabaaab": {0, 4, 2}, "aaabaaabaaa": {0, 4, 2}, "aaaabaaaab": {0, 5, 2},
	} {
		at, p, n := fold.Best(letters(s))
		if got := [3]int{at, p, n}; got != want {
			t.Errorf("Best of %q: %v, want %v", s, got, want)
		}
		agree(t, letters(s))
	}
	for _, c := range []struct {
		l    []api.Run
		want [3]int
	}{
		{row(0, 1, 0, 2, 0, 1), [3]int{}}, {row(0, 5, 0, 5, 0, 5), [3]int{0, 1, 3}}, {row(-1, 3, 0, 3, -1, 3), [3]int{}}, {row(0, 3, -1, 3, 0, 3, -1, 3, 0, 3, -1, 3), [3]int{0, 2, 3}},
		// Any runs are held against each other, whatever they are.
		{row(-1, 3, -5, 3, -1, 3), [3]int{}}, {row(-5, 3, -5, 3, -5, 3), [3]int{0, 1, 3}}, {row(0, 0, 0, -1, 0, 0), [3]int{}}, {row(9, -1, 9, -1, 9, -1), [3]int{0, 1, 3}},
		{row(0, 1, 0, 1<<32+1, 0, 1), [3]int{}}, {row(0, 1, 1<<32, 1, 0, 1), [3]int{}}, {slices.Repeat(row(0, math.MaxInt64), 4), [3]int{0, 1, 4}}, {slices.Repeat(row(math.MinInt64, math.MinInt64), 4), [3]int{0, 1, 4}},
	} {
		at, p, n := fold.Best(c.l)
		if got := [3]int{at, p, n}; got != c.want {
			t.Errorf("Best(%v): %v, want %v", c.l, got, c.want)
		}
		agree(t, c.l)
	}
}

// TestEach: each row of few runs, right ones and wrong ones.
func TestEach(t *testing.T) {
	for _, l := range sample.Each(row(0, 1, 1, 1), 10) {
		agree(t, l)
	}
	for _, l := range sample.Each(row(0, 1, -1, 1, 0, 2), 6) {
		agree(t, l)
	}
	for _, l := range sample.Each(row(0, 1, -1, 1, -2, 1, 6, 1, 1, 0, 0, 4095), 4) {
		agree(t, l)
	}
}

// TestGreat: rows of a great many runs.
func TestGreat(t *testing.T) {
	many := unlike(1 << 15)
	for _, c := range []struct {
		l      []api.Run
		best   [3]int
		period int
	}{
		{slices.Repeat(row(0, 1), 1<<16), [3]int{0, 1, 1 << 16}, 1},
		{slices.Repeat(row(0, 1, 1, 1), 1<<15), [3]int{0, 2, 1 << 15}, 2},
		{slices.Repeat(row(0, 1, -1, 1, 0, 1), 1<<15), [3]int{0, 3, 1 << 15}, 3},
		{slices.Repeat(many[:97], 500), [3]int{0, 97, 500}, 97},
		{many, [3]int{}, 1 << 15},
		{slices.Concat(many, many), [3]int{0, 1 << 15, 2}, 1 << 15},
		{slices.Concat(row(5, 1), many, many), [3]int{1, 1 << 15, 2}, 1<<16 + 1},
		{slices.Concat(many, many[:1<<15-1]), [3]int{}, 1<<16 - 1},
		{slices.Concat(many, slices.Repeat(row(5, 1), 3), many), [3]int{1 << 15, 1, 3}, 1<<16 + 3},
	} {
		at, p, n := fold.Best(c.l)
		if got := [3]int{at, p, n}; got != c.best || fold.Period(c.l) != c.period {
			t.Errorf("of %d runs: Best %v, Period %d, want %v, %d", len(c.l), got, fold.Period(c.l), c.best, c.period)
		}
		if len(fold.Table(c.l)) > 0 || len(fold.Plain(c.l)) > 0 {
			t.Errorf("of %d runs there is a table", len(c.l))
		}
	}
}
