package bound_test

import (
	"math/rand/v2"
	"testing"

	"horarium/api"
	"horarium/bound"
	"horarium/graph"
	"horarium/word"
)

// again is how many frames are played, one behind the other.
const again = 3

// worst is how many ticks, at most, what is sent in each tick of x's From waits until x's To has a tick in which it can read it; false, if something is never read. What is sent in the last frame is let be.
func worst(w []int, x api.Chan) (int64, bool) {
	most := 0
	var sent []int
	for at := range again * len(w) {
		whose := w[at%len(w)]
		if whose == x.To {
			for _, was := range sent {
				most = max(most, at-was)
			}
			sent = nil
		}
		if whose == x.From && at < (again-1)*len(w) {
			sent = append(sent, at)
		}
	}
	return int64(most), len(sent) == 0
}

// served is how many ticks, at least, p has in each period from the first tick on; false, if these and the frames do not end together.
func served(w []int, p int, period int64) (int64, bool) {
	if period < 1 || int64(len(w))%period != 0 {
		return 0, false
	}
	fewest, mine := period, int64(0)
	for at := range again * len(w) {
		if w[at%len(w)] == p {
			mine++
		}
		if int64(at+1)%period == 0 {
			fewest, mine = min(fewest, mine), 0
		}
	}
	return fewest, true
}

// TestInTime: W3: just where Holds is OK each message can be read within its channel's Late and each partition has its Budget in each Period, frame behind frame.
func TestInTime(t *testing.T) {
	r := rand.New(rand.NewPCG(9, 2))
	for range 10000 {
		c, l := drawn(r)
		want := api.OK
		for p, x := range c.Parts {
			if n, ok := served(ticks(l), p, x.Period); x.Budget > 0 && (!ok || n < x.Budget) {
				want = api.ErrShort
			}
		}
		for _, x := range c.Chans {
			n, read := worst(ticks(l), x)
			if x.Late > 0 && (!read || n > x.Late) {
				want = api.ErrLate
			}
			if got := bound.Late(l, x.From, x.To); read && got != n || read != (got >= 0) {
				t.Fatalf("Late(%s, %d, %d): %d, but played %d, %v", short(l), x.From, x.To, got, n, read)
			}
		}
		is(t, c, l, want)
	}
}

// TestTurned: W3: of one frame, turned about where nobody can tell, some ways hold, others do not.
func TestTurned(t *testing.T) {
	c := module([]api.Part{part(1, 3), part(1, 6), part(0, 0)}, ch(0, 1, 3))
	for _, x := range []struct {
		l    string
		want api.Errno
	}{
		{"c.aabc", api.OK}, {"c.aacb", api.OK}, {"c.acab", api.OK}, {"cacab.", api.OK},
		{"ca.acb", api.ErrLate}, {"ac.acb", api.ErrLate}, {"a.ccab", api.ErrLate}, {"aacc.b", api.ErrLate},
		{"caab.c", api.ErrShort}, {"c.caab", api.ErrShort}, {"aabcc.", api.ErrShort},
	} {
		if !word.Same(spelt("aabcc."), spelt(x.l), graph.Depends(c)) {
			t.Errorf("somebody can tell %s", x.l)
		}
		is(t, c, spelt(x.l), x.want)
	}
}
