package bound_test

import (
	"math"
	"slices"
	"testing"

	"horarium/api"
	"horarium/bound"
	"horarium/runs"
	"horarium/sample"
)

// TestNobody: Late, Gaps, Budget of numbers that are no partition's: as a row has ticks of them, idle ones too, or none.
func TestNobody(t *testing.T) {
	l := spelt("..a.b...")
	gap(t, l, -1, 1)
	lates(t, l, -1, 0, 7)
	lates(t, l, -1, 1, 7)
	lates(t, l, 0, -1, 1)
	lates(t, l, -1, 2, -1)
	lates(t, l, 2, -1, 0)
	budgets(t, l, -1, 4, 3)
	budgets(t, l, -1, 2, 1)
	for _, p := range []int{-2, -3, 6, 7, 1 << 31, 1 << 32, 1<<32 + 1, -1 << 32, 1<<32 - 1, math.MinInt32, math.MaxInt - 1, math.MaxInt, math.MinInt + 1, math.MinInt} {
		gap(t, l, p, -1)
		lates(t, l, p, 0, 0)
		lates(t, l, 0, p, -1)
		lates(t, l, -1, p, -1)
		lates(t, l, p, p, 0)
		lates(t, l, p, p/2, 0)
		budgets(t, l, p, 8, 0)
		budgets(t, l, p, 3, -1)
		// Ticks of it, that are nobody's else.
		m := append(spelt("ab."), api.Run{Part: p, N: 3})
		gap(t, m, p, 3)
		gap(t, m, 0, 5)
		lates(t, m, 0, p, 3)
		lates(t, m, p, 0, 3)
		lates(t, m, -1, p, 1)
		budgets(t, m, p, 3, 0)
		budgets(t, m, p, 6, 3)
	}
}

// times is l with each run so many times as long.
func times(l []api.Run, n int64) []api.Run {
	l = slices.Clone(l)
	for at := range l {
		l[at].N *= n
	}
	return l
}

// TestTimes: of a row with each run so many times as long all distances between runs and all periods are so, too: also where nobody could count its ticks one by one.
func TestTimes(t *testing.T) {
	for _, l := range sample.Rows() {
		w := ticks(l)
		for _, n := range []int64{2, 3, 1 << 30, 1 << 50} {
			m := times(l, n)
			for _, p := range some() {
				gap(t, m, p, max(gaps(w, p)*n, -1))
				for _, q := range some() {
					if p != q {
						lates(t, m, p, q, max(late(w, p, q)*n, -1))
					}
				}
				for period := int64(1); period <= int64(len(w)); period++ {
					budgets(t, m, p, period*n, max(budget(w, p, period)*n, -1))
				}
				shorter(t, m, w, p, n)
			}
		}
	}
}

// shorter: Budget of p of periods that are shorter than each run of m, which has the ticks w, each so many times.
func shorter(t *testing.T, m []api.Run, w []int, p int, n int64) {
	t.Helper()
	for period := int64(1); period <= 6; period++ {
		want := int64(-1)
		if n%period == 0 && len(w) > 0 {
			want = 0
			if len(places(w, p)) == len(w) {
				want = period
			}
		}
		if n%period == 0 || len(w) == 0 {
			budgets(t, m, p, period, want)
		}
	}
}

// TestGreat: runs of ticks that nobody counts one by one, up to the greatest number that there is.
func TestGreat(t *testing.T) {
	one := row(0, greatest)
	gap(t, one, 0, 0)
	gap(t, one, 1, -1)
	lates(t, one, 0, 1, -1)
	lates(t, one, 1, 0, 0)
	// The greatest number is 7 * 7 * 73 * 127 * 337 * 92737 * 649657.
	for _, period := range []int64{1, 7, 49, 73, 127, 337, 92737, 649657, 7 * 649657, greatest / 7, greatest} {
		budgets(t, one, 0, period, period)
		budgets(t, one, 1, period, 0)
		budgets(t, row(-1, 3, 0, greatest-3), 0, period, max(0, period-3))
		budgets(t, row(0, greatest-3, -1, 3), 0, period, max(0, period-3))
		budgets(t, row(0, 5, -1, 1, 0, greatest-6), 0, period, period-1)
		budgets(t, row(0, greatest-6, -1, 1, 0, 5), 0, period, period-1)
	}
	for _, period := range []int64{2, 3, 10, 1 << 62, greatest - 1, greatest - 7, 0, -1, -7, -greatest, least} {
		budgets(t, one, 0, period, -1)
	}
	two := row(0, 1<<61, 1, 1<<61)
	gap(t, two, 0, 1<<61)
	lates(t, two, 0, 1, 1<<61)
	for bit := range 63 {
		n := int64(1) << bit
		budgets(t, two, 1, n, max(0, n-1<<61))
		budgets(t, row(0, 1<<62-1, 1, 1), 0, n, n-1)
		budgets(t, row(1, 1, 0, 1<<62-1), 0, n, n-1)
		budgets(t, row(1, 1, 0, 1<<62-1), 1, n, n>>62)
	}
	gap(t, row(0, 1, 1, greatest-1), 0, greatest-1)
	lates(t, row(0, 1, 1, greatest-2, 2, 1), 0, 2, greatest-1)
	lates(t, row(0, greatest-3, 1, 2, 2, 1), 0, 2, greatest-1)
	lates(t, row(2, greatest-3, 1, 2, 0, 1), 0, 2, 1)
	lates(t, row(2, greatest-3, 1, 2, 0, 1), 2, 1, greatest-3)
}

// TestHeld: sums are held at the greatest number; what is not above it is told as it is, though the frame is longer.
func TestHeld(t *testing.T) {
	l := row(0, greatest, 1, greatest, 2, 1)
	lates(t, l, 0, 1, greatest)
	lates(t, l, 1, 2, greatest)
	lates(t, l, 2, 0, 1)
	lates(t, l, 2, 1, greatest)
	lates(t, l, 0, 2, greatest)
	lates(t, l, 1, 0, greatest)
	lates(t, l, 0, 0, greatest)
	lates(t, l, 2, 2, greatest)
	gap(t, l, 0, greatest)
	gap(t, l, 1, greatest)
	gap(t, l, 2, greatest)
	gap(t, row(0, 1, 1, greatest), 0, greatest)
	lates(t, row(0, 1, 1, greatest), 0, 0, greatest)
	gap(t, row(1, 1<<62, 0, 1, 1, 1<<62-1), 0, greatest)
	gap(t, row(1, 1<<62, 0, 1, 1, 1<<62-2), 0, greatest-1)
	gap(t, row(1, 1<<62, 0, 1, 1, 1<<62), 0, greatest)
	lates(t, row(0, greatest, -1, greatest), 0, -1, greatest)
	lates(t, row(0, greatest, 0, greatest, 1, 1), 0, 1, greatest)
	lates(t, row(0, greatest, 0, greatest, 1, 1), 1, 0, 1)
	gap(t, row(0, greatest, 0, greatest), 0, 0)
	budgets(t, row(0, greatest, 0, greatest), 0, greatest, greatest)
	budgets(t, row(0, greatest, 0, greatest), 0, 7, 7)
}

// TestEnds: R1: every call ends, and answers no more than there may be, of runs of ticks of any number, and numbers of any size.
func TestEnds(t *testing.T) {
	numbers := append(odd(), -1, 0, 1, 2, 3, 7)
	var some []api.Run
	for i, n := range []int64{least, -1, 0, 1, 7, 1 << 62, greatest - 1, greatest} {
		some = append(some, api.Run{Part: i%3 - 1, N: n}, api.Run{Part: (i + 1) % 3, N: n})
	}
	for _, l := range sample.Each(some, 3) {
		length := runs.Length(l)
		for p := -1; p < 4; p++ {
			if got := bound.Gaps(l, p); got < 0 != (runs.Ticks(l, p) == 0) || got > length {
				t.Fatalf("Gaps(%v, %d): %d", l, p, got)
			}
			for q := -1; q < 4; q++ {
				if got := bound.Late(l, p, q); got < -1 || got > length || got == 0 != (runs.Ticks(l, p) == 0) {
					t.Fatalf("Late(%v, %d, %d): %d", l, p, q, got)
				}
			}
			for _, period := range numbers {
				if got := bound.Budget(l, p, period); got < -1 || got > max(period, -1) || got < 0 != (period < 1 || length == 0 || length%period != 0) {
					t.Fatalf("Budget(%v, %d, %d): %d", l, p, period, got)
				}
			}
		}
	}
}

// TestMany: a great many runs.
func TestMany(t *testing.T) {
	const many = 1 << 18
	l := slices.Repeat(spelt("ab.c"), many)
	gap(t, l, 0, 3)
	gap(t, l, 3, -1)
	lates(t, l, 0, 2, 3)
	lates(t, l, 0, 3, -1)
	budgets(t, l, 1, 4, 1)
	budgets(t, l, 1, 2, 0)
	budgets(t, l, 1, 4*many, many)
	budgets(t, l, 1, 3, -1)
	l = append(l, spelt("d")...)
	gap(t, l, 0, 4)
	gap(t, l, 3, 4*many)
	lates(t, l, 0, 3, 4*many)
	lates(t, l, 3, 2, 4)
	budgets(t, l, 1, 4, -1)
	budgets(t, l, 3, 4*many+1, 1)
}
