package bound_test

import (
	"math"
	"testing"

	"horarium/api"
	"horarium/bound"
	"horarium/sample"
)

// Short names of what sample makes.
var (
	row   = sample.Row
	spelt = sample.Spelt
	ticks = sample.Ticks
	short = sample.Short
	odd   = sample.Odd
	roomy = sample.Roomy[api.Run]
	whole = sample.Whole[api.Run]

	// The second reckoning, tick by tick.
	places, late  = sample.Places, sample.Late
	budget, holds = sample.Budget, sample.Holds

	ch, part, module = sample.Within, sample.Owed, sample.Joined
)

const (
	greatest = math.MaxInt64
	least    = math.MinInt64
)

// gaps is what Gaps must answer: between each two places of part, and from its last one to its first one a frame later.
func gaps(w []int, part int) int64 {
	at := places(w, part)
	if len(at) == 0 {
		return -1
	}
	at = append(at, at[0]+len(w))
	most := 0
	for i, next := range at[1:] {
		most = max(most, next-at[i]-1)
	}
	return int64(most)
}

// some are numbers of partitions, idle ticks' and such as are no partition's.
func some() []int {
	return []int{-2, -1, 0, 1, 2, 3, 4, 5, 6, 7}
}

// agree: all answers of l, a row of not too many ticks, are what the second reckoning tells.
func agree(t *testing.T, l []api.Run) {
	t.Helper()
	w := ticks(l)
	for _, p := range some() {
		if got, want := bound.Gaps(l, p), gaps(w, p); got != want {
			t.Fatalf("Gaps(%s, %d): %d, want %d", short(l), p, got, want)
		}
		for _, q := range some() {
			lates(t, l, p, q, late(w, p, q))
		}
		for period := int64(-1); period <= int64(len(w))+1; period++ {
			budgets(t, l, p, period, budget(w, p, period))
		}
		for _, period := range odd() {
			budgets(t, l, p, period, -1)
		}
	}
}

// lates: Late of l answers want.
func lates(t *testing.T, l []api.Run, from, to int, want int64) {
	t.Helper()
	if got := bound.Late(l, from, to); got != want {
		t.Fatalf("Late(%s, %d, %d): %d, want %d", short(l), from, to, got, want)
	}
}

// budgets: Budget of l answers want.
func budgets(t *testing.T, l []api.Run, part int, period, want int64) {
	t.Helper()
	if got := bound.Budget(l, part, period); got != want {
		t.Fatalf("Budget(%s, %d, %d): %d, want %d", short(l), part, period, got, want)
	}
}

// gap: Gaps of l answers want, and Late of one and the same what follows from it.
func gap(t *testing.T, l []api.Run, part int, want int64) {
	t.Helper()
	if got := bound.Gaps(l, part); got != want {
		t.Fatalf("Gaps(%s, %d): %d, want %d", short(l), part, got, want)
	}
	if want < greatest {
		lates(t, l, part, part, want+1)
	}
}
