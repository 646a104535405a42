package proc_test

import (
	"math"
	"slices"
	"testing"

	"horarium/sample"
)

// TestNext: the least time behind now until which one that is not ended sleeps; named one by one.
func TestNext(t *testing.T) {
	for _, c := range []struct {
		times []int64
		ended []int
		now   int64
		want  int64
	}{
		{[]int64{0}, nil, -1, 0},
		{[]int64{0}, nil, math.MinInt64, 0},
		{[]int64{0}, nil, 0, -1},
		{[]int64{0}, nil, 1, -1},
		{[]int64{0}, nil, math.MaxInt64, -1},
		{[]int64{7}, nil, 6, 7},
		{[]int64{7}, nil, 7, -1},
		{[]int64{7, 5}, nil, 4, 5},
		{[]int64{7, 5}, nil, 5, 7},
		{[]int64{5, 7}, nil, 4, 5},
		{[]int64{5, 5, 5}, nil, 4, 5},
		{[]int64{5, 5, 5}, nil, 5, -1},
		{[]int64{9, 3, 6}, nil, 2, 3},
		{[]int64{9, 3, 6}, nil, 3, 6},
		{[]int64{9, 3, 6}, nil, 6, 9},
		{[]int64{9, 3, 6}, nil, 9, -1},
		{[]int64{9, 3, 6}, []int{1}, 2, 6},
		{[]int64{9, 3, 6}, []int{1, 2}, 2, 9},
		{[]int64{9, 3, 6}, []int{0, 1, 2}, 2, -1},
		{[]int64{9, 3, 6}, []int{0}, 6, -1},
		{[]int64{-1}, nil, -2, -1},
		{[]int64{-1, 7, 0}, nil, -10, -1},
		{[]int64{-1, 7, 0}, nil, -1, 0},
		{[]int64{-1, 7, 0}, []int{0, 2}, -10, 7},
		{[]int64{-7, -8}, nil, -9, -8},
		{[]int64{-7, -8}, nil, -8, -7},
		{[]int64{-7, -8}, nil, -7, -1},
		{[]int64{math.MinInt64, 4}, nil, math.MinInt64, 4},
		{[]int64{math.MinInt64 + 1, 4}, nil, math.MinInt64, math.MinInt64 + 1},
		{[]int64{math.MaxInt64, math.MinInt64}, nil, math.MinInt64, math.MaxInt64},
		{[]int64{math.MaxInt64, math.MinInt64}, nil, math.MaxInt64 - 1, math.MaxInt64},
		{[]int64{math.MaxInt64, math.MinInt64}, nil, math.MaxInt64, -1},
		{[]int64{1 << 32, 1}, nil, 0, 1},
		{[]int64{1 << 32, 1}, nil, 1, 1 << 32},
	} {
		x := begun(t, []int{2, 1, 3}[:len(c.times)]...)
		for i, until := range c.times {
			x.sleep(i, until)
		}
		for _, i := range c.ended {
			x.end(i)
		}
		for range 2 {
			if got := x.x.Next(c.now); got != c.want {
				t.Errorf("asleep until %d, ended %d: Next(%d): %d, want %d", c.times, c.ended, c.now, got, c.want)
			}
		}
		x.agrees()
	}
}

// TestNextOn: from Next to Next each time until which one sleeps comes, once, in rising order, whatever the Prios are.
func TestNextOn(t *testing.T) {
	some := []int64{math.MinInt64, -300, -2, -1, 0, 1, 2, 1 << 40, math.MaxInt64}
	for _, times := range sample.Each(some, 3)[1:] {
		x := begun(t, []int{3, 1, 2}[:len(times)]...)
		for i, until := range times {
			x.sleep(i, until)
		}
		want := slices.Compact(slices.Sorted(slices.Values(times)))
		now := int64(math.MinInt64)
		if want[0] == now {
			want = want[1:]
		}
		for _, at := range want {
			if got := x.x.Next(now); got != at {
				t.Errorf("asleep until %d: Next(%d): %d, want %d", times, now, got, at)
			}
			if x.x.Pick(at) < 0 {
				t.Errorf("asleep until %d: Pick(%d): none", times, at)
			}
			now = at
		}
		if got := x.x.Next(now); got != -1 {
			t.Errorf("asleep until %d: Next(%d): %d", times, now, got)
		}
	}
}
