package bound_test

import (
	"math"
	"slices"
	"testing"

	"horarium/api"
	"horarium/bound"
	"horarium/runs"
	"horarium/sample"
)

// TestExamples: the chapter's run and examples.
func TestExamples(t *testing.T) {
	lates(t, row(0, 1, 1, 1), 0, 1, 1)
	lates(t, row(0, 1), 0, 1, -1)
	budgets(t, row(0, 1), 0, 0, -1)
	for _, l := range [][]api.Run{nil, {}, roomy(nil, row(0, 1, 1, 1))} {
		agree(t, l)
		for _, p := range some() {
			gap(t, l, p, -1)
			lates(t, l, p, 1, 0)
			budgets(t, l, p, 1, -1)
			budgets(t, l, p, 0, -1)
		}
	}
}

// TestLate: from, to, and what Late must answer, in numbers.
func TestLate(t *testing.T) {
	for _, x := range []struct {
		l        string
		from, to int
		want     int64
	}{
		{"ab", 0, 1, 1}, {"ab", 1, 0, 1}, {"ba", 0, 1, 1}, {"aab", 0, 1, 2}, {"aab", 1, 0, 1}, {"abb", 0, 1, 1}, {"abb", 1, 0, 2},
		// Idle ticks and others' count as they go by.
		{"a.b", 0, 1, 2}, {"a.b", 1, 0, 1}, {"ab..", 1, 0, 3}, {"acb", 0, 1, 2}, {"..ab", 1, 0, 3}, {".a.b.", 1, 0, 3}, {"aab...", 0, 1, 2}, {"aab...", 1, 0, 4}, {"abcdef", 0, 5, 5}, {"abcdef", 5, 0, 1}, {"abcdef", 1, 0, 5}, {"abcdef", 2, 1, 5},
		// The greatest distance, not the first, the last, or the least.
		{"abaab", 0, 1, 2}, {"aabab", 0, 1, 2}, {"a..baab", 0, 1, 3}, {"aaba..b", 0, 1, 3}, {"abaa..bab", 0, 1, 4}, {"a.ba..b", 0, 1, 3}, {"a...b.a.b", 0, 1, 4}, {"a.b.a...b", 0, 1, 4},
		// Of several ticks ahead of one of to the first.
		{"a.a.b", 0, 1, 4}, {"aaaab", 0, 1, 4}, {"ac.a.cab", 0, 1, 7}, {".a.ab", 0, 1, 3}, {"bc.c.a", 2, 0, 4},
		// The next tick of to, though there are more behind it.
		{"abbb", 0, 1, 1}, {"ab.b", 0, 1, 1}, {"a.bcb.", 0, 1, 2}, {"abab", 0, 1, 1},
		// Round behind the frame's end.
		{"ba", 0, 1, 1}, {"baa", 0, 1, 2}, {"b.a.", 0, 1, 2}, {".b.a.", 0, 1, 3}, {"ab.a", 0, 1, 2}, {"...ba", 0, 1, 4}, {"ab.aaa", 0, 1, 4}, {"aab..a", 0, 1, 3}, {"aab.a.", 0, 1, 4}, {"aaab.a", 0, 1, 4}, {"aaab..b", 0, 1, 3}, {"aab...ab", 0, 1, 2}, {"ccab", 1, 0, 3}, {"a.cc.b", 1, 0, 1},
		// One and the same: from a tick to its next one.
		{"a", 0, 0, 1}, {"aa", 0, 0, 1}, {"aaaaaa", 0, 0, 1}, {"a.", 0, 0, 2}, {".a", 0, 0, 2}, {"..a...", 0, 0, 6}, {"aba", 0, 0, 2}, {"ab", 1, 1, 2}, {"aab", 0, 0, 2}, {"aab", 1, 1, 3}, {"a.a..a", 0, 0, 3}, {"..a.a..", 0, 0, 5}, {"aab...", 0, 0, 5}, {"aab...", 1, 1, 6}, {"f....f", 5, 5, 5},
		// From has no tick, to has none, neither has.
		{"b", 0, 1, 0}, {"..b..", 0, 1, 0}, {"b", 0, 0, 0}, {"b", 5, 1, 0}, {"a", 0, 1, -1}, {"a..c", 0, 1, -1}, {"abcde", 4, 5, -1}, {"b", 1, 0, -1}, {"c", 0, 1, 0}, {"c.c", 5, 4, 0}, {"...", 0, 1, 0}, {"...", 0, 0, 0}, {"", 0, 1, 0}, {"", 0, 0, 0},
	} {
		lates(t, spelt(x.l), x.from, x.to, x.want)
		agree(t, spelt(x.l))
		agree(t, runs.Tidy(spelt(x.l)))
	}
}

// TestGaps: what Gaps must answer, in numbers.
func TestGaps(t *testing.T) {
	for _, x := range []struct {
		l    string
		part int
		want int64
	}{
		// One tick, wherever it is; all of them; none.
		{"a", 0, 0}, {"ab", 0, 1}, {"a...", 0, 3}, {"...a", 0, 3}, {".b.a.c.", 0, 6}, {".....f", 5, 5}, {"aa", 0, 0}, {"aaaaa", 0, 0}, {"", 0, -1}, {"a", 1, -1}, {"...", 0, -1}, {"abcde", 5, -1},
		// Ticks at both ends are side by side, round.
		{"a.a", 0, 1}, {"a..a", 0, 2}, {"aa.a", 0, 1}, {"abca", 0, 2}, {"a.a..a", 0, 2}, {"a..a.a", 0, 2}, {"ab...a.ba", 0, 4},
		// At one end alone, and at none.
		{"a.a..", 0, 2}, {"a...a.", 0, 3}, {"..a.a", 0, 2}, {".a..a.", 0, 2}, {".a.a.", 0, 2}, {"..a.a..", 0, 4}, {"..a.....a..", 0, 5}, {"aab...", 0, 4}, {"aab...", 1, 5},
		// Others' ticks go by as idle ones do.
		{"abcdef", 3, 5}, {"ab.ba", 0, 3}, {"abacad", 0, 1}, {"abbacccadd", 0, 3}, {"aabbb", 1, 2}, {"aabbb", 0, 3},
	} {
		gap(t, spelt(x.l), x.part, x.want)
		agree(t, spelt(x.l))
		agree(t, runs.Tidy(spelt(x.l)))
	}
}

// TestBudget: part, period, and what Budget must answer, in numbers.
func TestBudget(t *testing.T) {
	for _, x := range []struct {
		l            string
		part         int
		period, want int64
	}{
		{"a", 0, 1, 1}, {"a", 1, 1, 0}, {"ab", 0, 1, 0}, {"ab", 0, 2, 1}, {"ab", 1, 2, 1}, {"abab", 0, 2, 1}, {"abba", 0, 2, 1}, {"aabb", 0, 2, 0}, {"aabb", 0, 4, 2}, {"aabb", 1, 2, 0}, {"aabb", 0, 1, 0},
		// The fewest, in whichever period it is.
		{"aaabaa", 0, 2, 1}, {"abaaaa", 0, 2, 1}, {"aaaaab", 0, 2, 1}, {"aaabaa", 0, 3, 2}, {"aab.ba", 0, 3, 1}, {"b.aaab", 0, 3, 1}, {"aab...", 0, 3, 0}, {"aab...", 0, 6, 2}, {"aab...", 1, 6, 1}, {"aab...", 0, 2, 0}, {"ba..ab", 0, 3, 1}, {"ba..ab", 0, 2, 0},
		// Periods stand where they stand: not where the ticks are.
		{"baab", 0, 2, 1}, {".aa.", 0, 2, 1}, {".a.aa.", 0, 3, 1}, {".aaa..", 0, 3, 1}, {"..aa..", 0, 3, 1}, {"..aa..", 0, 2, 0}, {"a..a", 0, 2, 1}, {"a....a", 0, 3, 1}, {"a....a", 0, 2, 0},
		// All of them, none.
		{"aaaa", 0, 1, 1}, {"aaaa", 0, 2, 2}, {"aaaa", 0, 4, 4}, {"aaaa", 1, 2, 0}, {"....", 0, 2, 0}, {"....", -1, 2, 2}, {"aaaa", -1, 2, 0}, {"aaaa", 9, 4, 0}, {"aaaa", math.MaxInt, 4, 0}, {"aaaa", math.MinInt, 4, 0},
		// No period of the frame.
		{"aaaa", 0, 3, -1}, {"aaaa", 0, 5, -1}, {"aaaa", 0, 8, -1}, {"aaaa", 0, 0, -1}, {"aaaa", 0, -1, -1}, {"aaaa", 0, -2, -1}, {"aaaa", 0, -4, -1}, {"aaaa", 0, greatest, -1}, {"aaaa", 0, least, -1}, {"aaaaaa", 0, 4, -1}, {"aaaaaa", 0, 5, -1}, {"aaaaaa", 9, 4, -1},
		// No frame.
		{"", 0, 1, -1}, {"", 0, 0, -1}, {"", 0, -1, -1}, {"", 0, greatest, -1}, {"", 0, least, -1}, {"", -1, 1, -1},
	} {
		budgets(t, spelt(x.l), x.part, x.period, x.want)
		agree(t, spelt(x.l))
		agree(t, runs.Tidy(spelt(x.l)))
	}
}

// TestRuns: runs of one partition side by side are one, those of no ticks, and of less, count for nothing, wherever they stand.
func TestRuns(t *testing.T) {
	for _, x := range [][]api.Run{
		row(0, 2, 0, 3), row(0, 1, 0, 1, 1, 2, 1, 1), row(1, 1, 0, 2, 0, 2, 1, 3), row(-1, 2, -1, 1, 0, 1),
		row(0, 0), row(0, -1), row(0, 0, 1, -3, -1, 0), row(0, least), row(1, 0, 0, 1), row(0, 1, 1, 0), row(0, 1, 1, -1), row(0, 1, 1, least, 0, 2),
		// A nearer run of from, or of to, that has no tick; one that parts another.
		row(0, 0, -1, 2, 0, 1, 1, 1), row(-1, 3, 0, 0, -1, 2, 0, 1, 1, 1), row(0, 1, 1, 0, -1, 2, 1, 1), row(0, 1, 1, -5, -1, 2, 1, 1), row(1, 0, 0, 1, -1, 2, 1, 1, 1, 0), row(0, 1, 1, 1, -1, 4, 0, 0), row(0, -4, 0, 1, 1, 1, -1, 4), row(0, 2, 1, 0, 0, 3, -1, 1), row(0, 2, -1, -9, 0, 2, 1, 4),
		// Only one of them has ticks.
		row(0, 0, 1, 2), row(0, 2, 1, 0), row(0, least, 1, 3), row(0, 4, 1, -1, -1, 0),
		// Idle ones alone.
		row(-1, 1), row(-1, 6), row(-1, 2, -1, 4), row(-1, 0),
		// No partition's.
		row(6, 2, 0, 1, 7, 3), row(-2, 2, -1, 1, 0, 3), row(6, 1, -2, 1, 6, 4), row(0, 1, -2, 3, 1, 1, 6, 1), row(7, 3, 7, 3),
	} {
		agree(t, x)
		agree(t, runs.Tidy(x))
	}
}

// TestRows: each row of up to so many runs of each kind, and many that are drawn.
func TestRows(t *testing.T) {
	for _, l := range sample.Each(row(-1, 1, -1, 2, 0, 1, 0, 3, 0, -1, 1, 1, 1, 0, 2, 2, 6, 1), 3) {
		agree(t, l)
	}
	for _, l := range sample.Each([]byte(".abc"), 6) {
		agree(t, spelt(string(l)))
	}
	for _, l := range sample.Rows() {
		agree(t, l)
	}
}

// TestRound: a frame goes on with itself, so wherever it is said to begin, Late and Gaps are the same; Budget too, where a period begins.
func TestRound(t *testing.T) {
	for i, l := range sample.Rows() {
		n := runs.Length(l)
		for at := range l {
			m := slices.Concat(l[at:], l[:at])
			gone := runs.Length(l[:at])
			for _, p := range some() {
				gap(t, m, p, bound.Gaps(l, p))
				lates(t, m, p, i%6, bound.Late(l, p, i%6))
				for period := int64(1); period <= n; period++ {
					if gone%period == 0 {
						budgets(t, m, p, period, bound.Budget(l, p, period))
					}
				}
			}
		}
	}
}

// TestFrames: rows as long as a frame may be.
func TestFrames(t *testing.T) {
	for _, l := range sample.Frames() {
		if !runs.Right(l) || len(l) != 96 && runs.Length(l) != 4096 {
			t.Fatalf("%v is no such frame", l)
		}
		agree(t, l)
	}
}
