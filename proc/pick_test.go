package proc_test

import (
	"math"
	"slices"
	"testing"

	"horarium/api"
	"horarium/sample"
)

// TestPick: of those that are ready the one of the least Prio, of these the first; named one by one.
func TestPick(t *testing.T) {
	for _, c := range []struct {
		prios []int
		want  int
	}{
		{[]int{0}, 0},
		{[]int{math.MaxInt}, 0},
		{[]int{math.MinInt}, 0},
		{[]int{5, 3}, 1},
		{[]int{3, 5}, 0},
		{[]int{3, 3}, 0},
		{[]int{0, -1}, 1},
		{[]int{-1, 0}, 0},
		{[]int{-1, -2}, 1},
		{[]int{math.MaxInt, math.MinInt}, 1},
		{[]int{math.MinInt, math.MaxInt}, 0},
		{[]int{math.MaxInt, math.MaxInt - 1}, 1},
		{[]int{math.MinInt + 1, math.MinInt}, 1},
		{[]int{1, 1 << 32}, 0},
		{[]int{1 << 32, 1}, 1},
		{[]int{1 << 31, 1}, 1},
		{[]int{256, 1}, 1},
		{[]int{1, 2, 3}, 0},
		{[]int{1, 3, 2}, 0},
		{[]int{2, 1, 3}, 1},
		{[]int{3, 1, 2}, 1},
		{[]int{2, 3, 1}, 2},
		{[]int{3, 2, 1}, 2},
		{[]int{1, 1, 1}, 0},
		{[]int{1, 1, 2}, 0},
		{[]int{1, 2, 1}, 0},
		{[]int{2, 1, 1}, 1},
		{[]int{2, 2, 1}, 2},
		{[]int{2, 1, 2}, 1},
		{[]int{0, math.MinInt, math.MaxInt}, 1},
		{[]int{math.MaxInt, math.MaxInt, math.MaxInt}, 0},
		{[]int{math.MaxInt, math.MinInt, math.MinInt}, 1},
	} {
		x := begun(t, c.prios...)
		for _, now := range []int64{0, 1, 2, math.MaxInt64, 0} {
			if got := x.x.Pick(now); got != c.want {
				t.Errorf("Prios %d: Pick(%d): %d, want %d", c.prios, now, got, c.want)
			}
		}
		x.agrees()
	}
}

// TestPickFirst: at first each sleeps until 0: ahead of it none is ready.
func TestPickFirst(t *testing.T) {
	for _, prios := range orders() {
		x := begun(t, prios...)
		best := slices.Index(prios, slices.Min(prios))
		for _, now := range far() {
			want := best
			if now < 0 {
				want = -1
			}
			if got := x.x.Pick(now); got != want {
				t.Errorf("Prios %d, at first: Pick(%d): %d, want %d", prios, now, got, want)
			}
		}
	}
}

// TestPickEach: each order of Prios, with each of the processes ready, asleep or ended.
func TestPickEach(t *testing.T) {
	for _, prios := range orders() {
		for _, state := range sample.Each([]string{"ready", "asleep", "ended"}, len(prios)) {
			x := begun(t, prios...)
			for i, what := range state {
				switch what {
				case "asleep":
					x.sleep(i, 4)
				case "ended":
					x.end(i)
				}
			}
			for _, now := range []int64{-1, 0, 3, 4, 5} {
				x.asked(now)
			}
		}
	}
}

// TestPickEnds: the most urgent one ends, again and again: all the others get their turn by Prio, then the first; behind the last there is none, at any time.
func TestPickEnds(t *testing.T) {
	for _, prios := range orders() {
		x := begun(t, prios...)
		var turns []int
		for range prios {
			turns = append(turns, x.x.Pick(0))
			x.end(turns[len(turns)-1])
			x.agrees()
		}
		want := slices.SortedStableFunc(slices.Values([]int{0, 1, 2}[:len(prios)]), func(a, b int) int {
			switch {
			case prios[a] < prios[b]:
				return -1
			case prios[a] > prios[b]:
				return 1
			}
			return 0
		})
		if !slices.Equal(turns, want) {
			t.Errorf("Prios %d: turns of %d, want %d", prios, turns, want)
		}
		for _, now := range far() {
			if got := x.x.Pick(now); got != -1 {
				t.Errorf("Prios %d, all ended: Pick(%d): %d", prios, now, got)
			}
		}
	}
}

// TestPickBack: Pick may be asked of times in any order, and changes none of what it tells.
func TestPickBack(t *testing.T) {
	x := begun(t, 3, 2, 1)
	x.sleep(0, -5)
	x.sleep(1, 5)
	x.sleep(2, 10)
	for range 3 {
		for _, c := range []struct {
			now  int64
			want int
		}{{math.MaxInt64, 2}, {math.MinInt64, -1}, {10, 2}, {-5, 0}, {9, 1}, {-6, -1}, {5, 1}, {4, 0}} {
			if got := x.x.Pick(c.now); got != c.want {
				t.Errorf("Pick(%d): %d, want %d", c.now, got, c.want)
			}
		}
	}
	x.told()
}

// TestPickMany: rows of Prios that stand close together, or agree in their low bits, in tables of each size.
func TestPickMany(t *testing.T) {
	draw := dice(1)
	some := []int{math.MinInt, math.MinInt + 1, -1 << 32, 1 - 1<<32, -256, -1, 0, 1, 255, 256, 1<<31 - 1, 1 << 31, 1<<32 - 1, 1 << 32, 1<<32 + 1, math.MaxInt - 1, math.MaxInt}
	for range 2000 {
		prios := make([]int, 1+draw(api.MaxProcs))
		for i := range prios {
			prios[i] = some[draw(len(some))]
		}
		x := begun(t, prios...)
		x.asked(0)
		x.sleep(draw(len(prios)), 1)
		x.asked(0)
		x.asked(1)
		x.end(draw(len(prios)))
		x.asked(0)
		x.asked(1)
	}
}
