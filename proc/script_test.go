package proc_test

import (
	"math"
	"testing"

	"horarium/api"
	"horarium/proc"
	"horarium/sample"
)

// TestReset: behind Sleep and End of each, all is as at first.
func TestReset(t *testing.T) {
	for _, prios := range orders() {
		for _, until := range []int64{math.MinInt64, -3, 0, 5, math.MaxInt64} {
			x := begun(t, prios...)
			for i := range prios {
				x.sleep(i, until)
				if i%2 == 0 {
					x.end(i)
				}
			}
			for range 2 {
				x.reset()
				for i := range prios {
					if x.x.Wake(i) != 0 || x.x.Ended(i) {
						t.Fatalf("Prios %d, reset: Wake(%d): %d, Ended %v", prios, i, x.x.Wake(i), x.x.Ended(i))
					}
				}
				x.agrees()
			}
		}
	}
}

// TestResetMade: a table that was just made is the same behind a Reset.
func TestResetMade(t *testing.T) {
	for _, prios := range orders() {
		x := begun(t, prios...)
		for range 3 {
			x.reset()
			x.agrees()
		}
	}
}

// TestResetNew: what comes behind a Reset goes as on a table just made.
func TestResetNew(t *testing.T) {
	draw := dice(2)
	for _, prios := range orders() {
		used := begun(t, prios...)
		for range 10 {
			for range draw(8) {
				used.at(draw)
			}
			used.reset()
			fresh := begun(t, prios...)
			for range 8 {
				i, until := draw(len(prios)), times()[draw(len(times()))]
				if draw(3) == 0 {
					used.end(i)
					fresh.end(i)
				} else {
					used.sleep(i, until)
					fresh.sleep(i, until)
				}
				for _, now := range times() {
					if used.x.Pick(now) != fresh.x.Pick(now) || used.x.Next(now) != fresh.x.Next(now) {
						t.Fatalf("%+v: at %d other than a new one: Pick %d, %d; Next %d, %d", *used.w, now, used.x.Pick(now), fresh.x.Pick(now), used.x.Next(now), fresh.x.Next(now))
					}
				}
				used.told()
				fresh.told()
			}
		}
	}
}

// TestTwo: what is done to one table is not seen in another, be it made of the same list.
func TestTwo(t *testing.T) {
	draw := dice(3)
	for _, prios := range orders() {
		in := sample.Roomy(listed(prios...), listed(1, 2))
		var tables []pair
		for range 3 {
			tables = append(tables, pair{t, proc.New(in), &second{prios: prios}})
		}
		tables = append(tables, begun(t, 1, 0, 1))
		tables[1].agrees()
		for range 30 {
			tables[draw(len(tables))].at(draw)
			for _, x := range tables {
				x.asked(times()[draw(len(times()))])
			}
		}
		for _, x := range tables {
			x.agrees()
		}
	}
}

// TestScripts: long scripts of all calls, held against the second reckoning.
func TestScripts(t *testing.T) {
	draw := dice(4)
	for range 600 {
		prios := make([]int, 1+draw(api.MaxProcs))
		for i := range prios {
			prios[i] = draw(3) - 1
		}
		x := begun(t, prios...)
		for range 200 {
			x.at(draw)
			x.asked(times()[draw(len(times()))])
			x.asked(int64(draw(12)) - 3)
		}
		x.agrees()
	}
}

// TestClock: a table asked tick by tick, as a partition asks it: who goes on sleeps a while, and now and then ends; where none is ready, Next tells when the next one is.
func TestClock(t *testing.T) {
	draw := dice(5)
	for range 200 {
		prios := []int{draw(3), draw(3), draw(3)}
		x := begun(t, prios...)
		for now := int64(0); now < 150; now++ {
			x.asked(now)
			i := x.x.Pick(now)
			if i < 0 {
				if at := x.x.Next(now); at > now && x.x.Pick(at-1) >= 0 {
					t.Fatalf("%+v: at %d none is ready, and one is at %d, ahead of Next, %d", *x.w, now, at-1, at)
				}
				continue
			}
			if draw(50) == 0 {
				x.end(i)
			} else {
				x.sleep(i, now+1+int64(draw(9)))
			}
		}
	}
}

// times are those of which scripts are made.
func times() []int64 {
	return []int64{math.MinInt64, math.MinInt64 + 1, -1 << 32, -2, -1, 0, 1, 2, 3, 5, 8, 1 << 32, math.MaxInt64 - 1, math.MaxInt64}
}

// at does one thing to the table, also to a process that there is not.
func (c pair) at(draw func(below int) int) {
	c.t.Helper()
	i := draw(len(c.w.prios)+2) - 1
	switch draw(12) {
	case 0, 1:
		c.end(i)
	case 2:
		c.reset()
	case 3, 4:
		c.sleep(i, times()[draw(len(times()))])
	default:
		c.sleep(i, int64(draw(12))-3)
	}
}
