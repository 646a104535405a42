package move_test

import (
	"math/rand/v2"
	"slices"
	"testing"

	"horarium/api"
	"horarium/bound"
	"horarium/graph"
	"horarium/move"
	"horarium/runs"
	"horarium/sample"
)

// fits: Fits of the move to the left and of that to the right.
func fits(t *testing.T, c api.Config, l []api.Run, i, j int, toLeft, toRight bool) {
	t.Helper()
	fit(t, c, l, left(i, j), toLeft)
	fit(t, c, l, right(i, j), toRight)
	fitting(t, c, l)
}

// TestFitsLate: moves that make a channel too late, and such as do not, by numbers.
func TestFitsLate(t *testing.T) {
	parts := make([]api.Part, 4)
	l := spelt("c.acb.")
	// To the left cc.ab., so 0 to 1 is 1; to the right .accb., so 0 to 1 is 3; 2 to 1 is 4, or 2; 3 has no tick.
	for _, x := range []struct {
		chans           []api.Chan
		toLeft, toRight bool
	}{
		{nil, true, true},
		{[]api.Chan{ch(0, 1, 0)}, true, true}, {[]api.Chan{ch(0, 1, -3)}, true, true}, {[]api.Chan{ch(0, 1, 1)}, true, false}, {[]api.Chan{ch(0, 1, 2)}, true, false}, {[]api.Chan{ch(0, 1, 3)}, true, true}, {[]api.Chan{ch(0, 1, 4)}, true, true},
		{[]api.Chan{ch(1, 0, 3)}, false, true}, {[]api.Chan{ch(1, 0, 2)}, false, false}, {[]api.Chan{ch(1, 0, 5)}, true, true},
		{[]api.Chan{ch(0, 1, 1), ch(1, 0, 5)}, true, false}, {[]api.Chan{ch(0, 1, 3), ch(1, 0, 3)}, false, true}, {[]api.Chan{ch(0, 1, 1), ch(1, 0, 3)}, false, false}, {[]api.Chan{ch(0, 1, 3), ch(1, 0, 5)}, true, true},
		// None to read, none to send.
		{[]api.Chan{ch(0, 3, 9)}, false, false}, {[]api.Chan{ch(0, 3, 0)}, true, true}, {[]api.Chan{ch(3, 0, 1)}, true, true}, {[]api.Chan{ch(0, 7, 9)}, false, false}, {[]api.Chan{ch(7, 0, 9)}, true, true},
		// One who has to do with the one that goes, between; and one who is not between.
		{[]api.Chan{ch(0, 2, 0)}, false, false}, {[]api.Chan{ch(2, 0, 0)}, false, false}, {[]api.Chan{ch(2, 1, 0)}, true, true}, {[]api.Chan{ch(2, 1, 5)}, true, true}, {[]api.Chan{ch(2, 1, 3)}, false, true}, {[]api.Chan{ch(2, 3, 0), ch(3, 2, 0)}, true, true},
		{[]api.Chan{ch(2, 9, 0), ch(-1, 0, 0), ch(0, 4, 0)}, true, true},
	} {
		fits(t, module(parts, x.chans...), l, 0, 3, x.toLeft, x.toRight)
	}
}

// TestFitsBudget: moves that make a budget too small, and such as do not, by numbers.
func TestFitsBudget(t *testing.T) {
	l := spelt("ab.ab.")
	// To the left aab.b., to the right b.aab.; of idle ticks too: ab..ab, abab...
	for _, x := range []struct {
		parts           []api.Part
		toLeft, toRight bool
	}{
		{nil, true, true}, {[]api.Part{part(2, 6), part(2, 6)}, true, true}, {[]api.Part{part(3, 6)}, false, false}, {[]api.Part{part(1, 3)}, false, true}, {[]api.Part{part(2, 3)}, false, false}, {[]api.Part{part(0, 0), part(1, 3)}, true, true}, {[]api.Part{part(1, 6), part(1, 2)}, false, false},
		{[]api.Part{part(1, 2)}, false, false}, {[]api.Part{part(0, 2)}, true, true}, {[]api.Part{part(-1, 2)}, true, true}, {[]api.Part{part(1, 4)}, false, false}, {[]api.Part{part(1, 0)}, false, false}, {[]api.Part{{}, {}, part(1, 6)}, false, false},
	} {
		fits(t, module(x.parts), l, 0, 3, x.toLeft, x.toRight)
	}
	// An idle run that goes can bring a partition to another period.
	fits(t, module([]api.Part{part(1, 3), part(1, 3)}), l, 2, 5, true, false)
	fits(t, module([]api.Part{part(1, 3), part(1, 3)}), spelt(".ab.ab"), 0, 3, false, true)
	// Who changes the table with the one that goes has to do with it.
	sched := api.Part{Sched: true}
	fits(t, module([]api.Part{sched, sched}), l, 0, 3, false, false)
	fits(t, module([]api.Part{sched, {}}), l, 0, 3, true, true)
	fits(t, module([]api.Part{{}, sched}), l, 0, 3, true, true)
	fits(t, module([]api.Part{sched, {Stop: true}}), l, 0, 3, true, true)
	fits(t, module([]api.Part{sched, {}, sched}), l, 0, 3, true, true)
	fits(t, module([]api.Part{sched, sched}), l, 2, 5, true, true)
}

// TestFitsNot: moves that may not be made do not fit, though what Do makes of them holds; nothing is asked of the row as it was.
func TestFitsNot(t *testing.T) {
	free := module(make([]api.Part, 4))
	l := spelt("aba.ac")
	for _, m := range each(l) {
		fit(t, free, l, m, may(l, nil, m))
		if bound.Holds(free, move.Do(l, m)) != api.OK {
			t.Errorf("what Do makes of %v does not hold", m)
		}
	}
	// A row that is not as it is asked may come to be so, and one that is may cease to be.
	late, few := module(make([]api.Part, 2), ch(0, 1, 3)), module([]api.Part{{}, part(1, 3)})
	for _, x := range []struct {
		c               api.Config
		l               []api.Run
		was             api.Errno
		i, j            int
		toLeft, toRight bool
	}{
		{late, spelt("a.a.b"), api.ErrLate, 0, 2, false, true}, {late, spelt("a.a.b.b"), api.ErrLate, 4, 6, false, false}, {late, spelt("ab.a..b"), api.OK, 2, 4, true, false}, {late, spelt("ab.ab"), api.OK, 1, 4, false, false}, {late, spelt("aabab"), api.OK, 0, 1, true, true},
		{few, row(-1, 1, 1, 2, -1, 1, -1, 2), api.ErrShort, 0, 2, true, false}, {few, row(-1, 1, 1, 2, -1, 1, -1, 2), api.ErrShort, 2, 3, false, false}, {few, row(-1, 2, 1, 2, -1, 2), api.OK, 0, 2, false, false}, {few, spelt("b.a..b"), api.OK, 0, 5, false, false}, {few, spelt("b.a..b"), api.OK, 1, 3, true, true},
	} {
		if got := bound.Holds(x.c, x.l); got != x.was {
			t.Errorf("Holds of %s: %d", short(x.l), int(got))
		}
		fits(t, x.c, x.l, x.i, x.j, x.toLeft, x.toRight)
	}
}

// TestFitsNone: Parts that are none of the module's, and idle ones, have to do with nobody.
func TestFitsNone(t *testing.T) {
	all := pairs(7, func(a, b int) bool { return true })
	var chans []api.Chan
	for a := range all {
		for b := range all {
			chans = append(chans, ch(a-1, b-1, 0))
		}
	}
	for n := range 8 {
		c := module(slices.Repeat([]api.Part{{Sched: true}}, n), chans...)
		for _, s := range []string{"aba", "faf", "efe", "cbac", "...", ".abcdef.", "abcdefa", "f.f", "ff"} {
			fitting(t, c, spelt(s))
		}
		for _, far := range odd() {
			fits(t, c, row(far, 1, 0, 1, far, 1), 0, 2, true, true)
			fits(t, c, row(0, 1, far, 1, 0, 1), 0, 2, true, true)
			fits(t, c, row(-1, 1, far, 1, -1, 1), 0, 2, true, true)
		}
		fits(t, c, row(0, 1, int64(n), 1, 0, 1), 0, 2, n > 0, n > 0)
		fits(t, c, row(int64(n), 1, 0, 1, int64(n), 1), 0, 2, n > 0, n > 0)
		fits(t, c, row(0, 1, int64(n-1), 1, 0, 1), 0, 2, n == 0, n == 0)
	}
}

// drawn is so many runs, not tidy, of n partitions and idle ones.
func drawn(r *rand.Rand, long, n int) []api.Run {
	return sample.Tossed(r.IntN, long, n)
}

// TestFitsAt: each move that may be made fits where as much is asked as it gives, not where more is: channel by channel, partition by partition.
func TestFitsAt(t *testing.T) {
	r := rand.New(rand.NewPCG(10, 1))
	late, few := 0, 0
	for range 2000 {
		n := 1 + r.IntN(5)
		l := drawn(r, 2+r.IntN(9), n)
		for _, m := range move.All(l, nil) {
			x := do(l, m)
			// A channel of one to itself, and so of none that depend.
			p, q := r.IntN(n), l[m.I].Part
			if give := bound.Late(x, p, p); give > 0 {
				fit(t, module(make([]api.Part, n), ch(p, p, give)), l, m, true)
				fit(t, module(make([]api.Part, n), ch(p, p, give+1)), l, m, true)
				fit(t, module(make([]api.Part, n), ch(p, p, give-1)), l, m, give == 1)
				late++
			}
			parts, period := make([]api.Part, n), runs.Length(x)
			if period%2 == 0 {
				period /= 2
			}
			for _, p := range []int{p, max(q, 0)} {
				give := bound.Budget(x, p, period)
				for more := int64(-1); more <= 1; more++ {
					parts[p] = part(give+more, period)
					fit(t, module(parts), l, m, more < 1)
				}
				parts[p] = api.Part{}
				few++
			}
		}
	}
	if late < 1000 || few < 1000 {
		t.Errorf("no more than %d, %d were asked", late, few)
	}
}

// TestFitsDrawn: drawn modules, of which about as much is asked as rows give, held against the second reckoning, and against May by graph.Depends.
func TestFitsDrawn(t *testing.T) {
	r := rand.New(rand.NewPCG(10, 2))
	often := map[string]int{}
	for _, c := range append(sample.Few(1), sample.Modules(api.MaxParts)...) {
		n := len(c.Parts)
		l := drawn(r, r.IntN(14), n)
		length := runs.Length(l)
		for i, x := range c.Chans {
			c.Chans[i].Late = max(0, bound.Late(l, x.From, x.To)+r.Int64N(6)-1) * r.Int64N(2)
		}
		if n > 0 && length > 0 {
			p := r.IntN(n)
			c.Parts[p].Budget, c.Parts[p].Period = r.Int64N(1+runs.Ticks(l, p)), length/(1+length%2)
		}
		fitting(t, c, l)
		dep := graph.Depends(c)
		for _, m := range each(l) {
			is := "may not"
			if move.May(l, dep, m) {
				is = "holds"
				if why := bound.Holds(c, move.Do(l, m)); why != api.OK {
					is = why.Error()
				}
			}
			fit(t, c, l, m, is == "holds")
			often[is]++
		}
	}
	for _, is := range []string{"may not", "holds", api.ErrLate.Error(), api.ErrShort.Error()} {
		if often[is] < 1000 {
			t.Errorf("%s: no more than %d", is, often[is])
		}
	}
}
