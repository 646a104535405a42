package proc_test

import (
	"math"
	"testing"

	"horarium/sample"
)

// TestSleep: a process goes on from the time on until which it sleeps, not ahead of it, wherever that time is.
func TestSleep(t *testing.T) {
	for _, until := range append(far(), 7) {
		x := begun(t, 4)
		if !x.x.Sleep(0, until) || x.x.Wake(0) != until || x.x.Ended(0) {
			t.Errorf("Sleep until %d: Wake %d, Ended %v", until, x.x.Wake(0), x.x.Ended(0))
		}
		for _, now := range append(far(), 6, 7, 8) {
			want := -1
			if until <= now {
				want = 0
			}
			if got := x.x.Pick(now); got != want {
				t.Errorf("asleep until %d: Pick(%d): %d, want %d", until, now, got, want)
			}
		}
	}
}

// TestSleepAgain: one that sleeps already sleeps until the time that was told last, be it earlier or later.
func TestSleepAgain(t *testing.T) {
	for _, first := range far() {
		for _, then := range far() {
			x := begun(t, 2, 1, 2)
			for i := range 3 {
				x.sleep(i, first)
				x.agrees()
				x.sleep(i, then)
				x.agrees()
			}
		}
	}
}

// TestSleepEach: each process sleeps until below, at, or above the time of the others.
func TestSleepEach(t *testing.T) {
	for _, prios := range [][]int{{1}, {1, 1}, {2, 1}, {1, 2}, {1, 1, 1}, {1, 2, 3}, {3, 2, 1}, {2, 1, 2}, {1, 2, 1}, {2, 1, 1}} {
		for _, times := range sample.Each([]int64{-3, -1, 0, 2, math.MaxInt64, math.MinInt64}, len(prios)) {
			x := begun(t, prios...)
			for i, until := range times {
				x.sleep(i, until)
			}
			x.agrees()
		}
	}
}

// TestSleepEnded: one that is ended may be told to sleep, too: it stays ended.
func TestSleepEnded(t *testing.T) {
	for _, until := range far() {
		x := begun(t, 1, 2, 3)
		for i := range 3 {
			x.end(i)
			if !x.x.Sleep(i, until) || !x.x.Ended(i) || x.x.Wake(i) != until {
				t.Errorf("Sleep(%d, %d) of one that is ended: Ended %v, Wake %d", i, until, x.x.Ended(i), x.x.Wake(i))
			}
			x.sleep(i, until)
			x.agrees()
		}
	}
}

// TestEnd: one that ends goes on no more, asleep or not; twice is the same, and the others are as they were.
func TestEnd(t *testing.T) {
	for _, prios := range orders() {
		for i := range prios {
			for _, until := range []int64{-4, 0, 6} {
				x := begun(t, prios...)
				x.sleep(i, until)
				for range 2 {
					x.end(i)
					if !x.x.Ended(i) || x.x.Wake(i) != until {
						t.Fatalf("End(%d): Ended %v, Wake %d, want %d", i, x.x.Ended(i), x.x.Wake(i), until)
					}
					for _, now := range []int64{-5, -4, -1, 0, 5, 6, 7} {
						x.asked(now)
					}
				}
			}
		}
	}
}

// TestWake: Wake and Ended tell of each process by itself, behind each call.
func TestWake(t *testing.T) {
	x := begun(t, 1, 2, 3)
	want, over := [3]int64{}, [3]bool{}
	look := func(what string) {
		t.Helper()
		for i := range 3 {
			if got := x.x.Wake(i); got != want[i] {
				t.Errorf("%s: Wake(%d): %d, want %d", what, i, got, want[i])
			}
			if got := x.x.Ended(i); got != over[i] {
				t.Errorf("%s: Ended(%d): %v", what, i, got)
			}
		}
	}
	look("at first")
	x.x.Sleep(1, 9)
	want[1] = 9
	look("1 sleeps")
	x.x.End(0)
	over[0] = true
	look("0 is ended")
	x.x.Sleep(0, math.MinInt64)
	want[0] = math.MinInt64
	look("0 sleeps, though it is ended")
	x.x.Pick(math.MaxInt64)
	x.x.Next(math.MinInt64)
	look("asked")
	x.x.Sleep(2, math.MaxInt64)
	want[2] = math.MaxInt64
	look("2 sleeps")
	x.x.Sleep(1, -9)
	want[1] = -9
	look("1 sleeps again")
	x.x.End(2)
	over[2] = true
	look("2 is ended")
	x.x.Reset()
	want, over = [3]int64{}, [3]bool{}
	look("reset")
}

// TestNobody: of no process Sleep and End are false, Wake is 0, Ended is true; and nothing has changed (R3).
func TestNobody(t *testing.T) {
	for _, prios := range [][]int{{1}, {2, 1}, {1, 1, 1}, {3, 1, 2}} {
		x := begun(t, prios...)
		for _, do := range []func(){
			func() {},
			func() { x.sleep(0, 5) },
			func() { x.sleep(len(prios)-1, -5) },
			func() { x.end(len(prios) - 1) },
			func() { x.end(0) },
			func() { x.reset() },
		} {
			do()
			for _, i := range nobody(len(prios)) {
				for _, until := range []int64{math.MinInt64, -1, 0, 1, 7, math.MaxInt64} {
					if x.x.Sleep(i, until) {
						t.Errorf("of %d: Sleep(%d, %d): true", len(prios), i, until)
					}
				}
				if x.x.End(i) {
					t.Errorf("of %d: End(%d): true", len(prios), i)
				}
				if got := x.x.Wake(i); got != 0 {
					t.Errorf("of %d: Wake(%d): %d", len(prios), i, got)
				}
				if !x.x.Ended(i) {
					t.Errorf("of %d: Ended(%d): false", len(prios), i)
				}
				x.told()
			}
			x.agrees()
		}
	}
}
