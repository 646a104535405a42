package bound_test

import (
	"math"
	"math/rand/v2"
	"slices"
	"testing"

	"horarium/api"
	"horarium/bound"
)

// is: Holds answers want.
func is(t *testing.T, c api.Config, l []api.Run, want api.Errno) {
	t.Helper()
	if got := bound.Holds(c, l); got != want {
		t.Fatalf("Holds(%+v, %s): %d, want %d", c, short(l), int(got), int(want))
	}
}

// TestNothing: where nothing is asked all holds, whatever the frame.
func TestNothing(t *testing.T) {
	for _, l := range [][]api.Run{nil, {}, row(0, 1), row(-1, 5), row(0, 0), row(7, 2, 0, greatest, 1, least), spelt("aab...")} {
		is(t, api.Config{}, l, api.OK)
		is(t, api.Config{Parts: []api.Part{}, Chans: []api.Chan{}, Tables: [][]api.Node{nil, {{}}}}, l, api.OK)
		for _, n := range []int64{0, -1, -5, least} {
			is(t, module(nil, ch(0, 1, n), ch(1, 0, n), ch(0, 5, n), ch(-1, 9, n)), l, api.OK)
			for _, period := range append(odd(), -1, 0, 1, 3, 6) {
				is(t, module([]api.Part{part(n, period), part(n, period)}), l, api.OK)
			}
		}
		// What Holds does not ask.
		is(t, module([]api.Part{{Name: "1", Sched: true, Stop: true, Procs: make([]api.Proc, 9), Health: [5]int{9, 9}}}, api.Chan{From: 3, To: 3, Queue: true, Cap: -4, Max: 7}), l, api.OK)
	}
}

// TestHoldsLate: of each two channels' ends, what the frame gives holds, and more; one less does not.
func TestHoldsLate(t *testing.T) {
	for _, s := range []string{"a", "ab", "aab...", "a.b.ab..", ".c.a.bb", "abcdef", "...", "fe.dcba", ""} {
		l := spelt(s)
		for from := -2; from < 8; from++ {
			for to := -2; to < 8; to++ {
				n := late(ticks(l), from, to)
				for asked := int64(1); asked < 12; asked++ {
					want := api.OK
					if n < 0 || n > asked {
						want = api.ErrLate
					}
					is(t, module(nil, ch(from, to, asked)), l, want)
					is(t, module(nil, api.Chan{From: from, To: to, Queue: true, Cap: 2, Late: asked}), l, want)
					is(t, module([]api.Part{part(0, 0), part(0, 0)}, ch(0, 1, 0), ch(from, to, asked), ch(1, 0, -2)), l, want)
				}
			}
		}
	}
	l := spelt("aab...")
	for _, x := range []struct {
		from, to int
		late     int64
		want     api.Errno
	}{
		{0, 1, 1, api.ErrLate}, {0, 1, 2, api.OK}, {0, 1, 3, api.OK}, {0, 1, 4096, api.OK}, {0, 1, greatest, api.OK}, {1, 0, 3, api.ErrLate}, {1, 0, 4, api.OK}, {1, 1, 5, api.ErrLate}, {1, 1, 6, api.OK},
		// To has no tick: never, however long it may take. From has none: there is no message.
		{0, 2, 1, api.ErrLate}, {0, 2, 4096, api.ErrLate}, {0, 2, greatest, api.ErrLate}, {0, math.MaxInt, greatest, api.ErrLate}, {1, math.MinInt, 7, api.ErrLate}, {0, 6, 9, api.ErrLate}, {0, -2, 9, api.ErrLate},
		{2, 0, 1, api.OK}, {2, 3, 1, api.OK}, {2, 2, 1, api.OK}, {math.MaxInt, 0, 1, api.OK}, {math.MinInt, 0, 1, api.OK}, {-2, 0, 1, api.OK}, {6, 0, 1, api.OK},
	} {
		is(t, module(nil, ch(x.from, x.to, x.late)), l, x.want)
		// Where the module has partitions, too, and where it has fewer.
		is(t, module(make([]api.Part, 6), ch(x.from, x.to, x.late)), l, x.want)
		is(t, module(make([]api.Part, 1), ch(x.from, x.to, x.late)), l, x.want)
	}
	is(t, module(nil, ch(0, 1, 1)), nil, api.OK)
	is(t, module(nil, ch(0, 0, 1)), nil, api.OK)
}

// TestHoldsShort: of each partition, what the frame gives holds, and less; one more does not.
func TestHoldsShort(t *testing.T) {
	for _, s := range []string{"a", "ab", "aab...", "a.b.ab..", "abcabc", "aabbcc", ".c.a.bbc", "aaaaaa", "...", ""} {
		l := spelt(s)
		for p := range 4 {
			for period := int64(-2); period < 10; period++ {
				n := budget(ticks(l), p, period)
				for asked := int64(1); asked < 10; asked++ {
					want := api.OK
					if n < asked {
						want = api.ErrShort
					}
					parts := slices.Repeat([]api.Part{part(0, 0), part(-3, 5)}, 3)[:p]
					is(t, module(append(parts, part(asked, period))), l, want)
					is(t, module(append(parts, part(asked, period), part(0, 1)), ch(0, 9, 0)), l, want)
				}
			}
		}
	}
	l := spelt("aab...")
	for _, x := range []struct {
		parts []api.Part
		want  api.Errno
	}{
		{[]api.Part{part(2, 6)}, api.OK}, {[]api.Part{part(1, 6)}, api.OK}, {[]api.Part{part(3, 6)}, api.ErrShort}, {[]api.Part{part(2, 6), part(1, 6)}, api.OK}, {[]api.Part{part(2, 6), part(2, 6)}, api.ErrShort}, {[]api.Part{part(1, 3)}, api.ErrShort}, {[]api.Part{part(0, 3), part(1, 3)}, api.ErrShort},
		// A Period that does not divide the Length, and such as are none.
		{[]api.Part{part(1, 4)}, api.ErrShort}, {[]api.Part{part(1, 12)}, api.ErrShort}, {[]api.Part{part(1, 5)}, api.ErrShort}, {[]api.Part{part(1, 0)}, api.ErrShort}, {[]api.Part{part(1, -6)}, api.ErrShort}, {[]api.Part{part(1, greatest)}, api.ErrShort}, {[]api.Part{part(1, least)}, api.ErrShort},
		{[]api.Part{part(greatest, 6)}, api.ErrShort}, {[]api.Part{part(greatest, greatest)}, api.ErrShort}, {[]api.Part{part(7, 6)}, api.ErrShort},
		// A partition that the row knows nothing of.
		{[]api.Part{part(2, 6), part(1, 6), part(1, 6)}, api.ErrShort}, {append(make([]api.Part, 9), part(1, 6)), api.ErrShort}, {append(make([]api.Part, 9), part(0, 6)), api.OK}, {make([]api.Part, 9), api.OK},
	} {
		is(t, module(x.parts), l, x.want)
		is(t, module(x.parts, ch(0, 1, 2), ch(1, 0, 4), ch(0, 5, 0)), l, x.want)
	}
	is(t, module([]api.Part{part(1, 1)}), nil, api.ErrShort)
	// Idle ticks are nobody's Budget, nor are those of a number behind the partitions.
	is(t, module([]api.Part{part(1, 2)}), spelt("...."), api.ErrShort)
	is(t, module([]api.Part{part(1, 2)}), row(-1, 1, 6, 3), api.ErrShort)
	is(t, module(append(make([]api.Part, 6), part(2, 4))), row(6, 4), api.OK)
}

// TestOrder: all channels ahead of all partitions; each of them counts, wherever it stands.
func TestOrder(t *testing.T) {
	l := spelt("aab...")
	bad, good, none := []api.Chan{ch(0, 1, 1), ch(0, 5, 9), ch(1, 0, 3)}, []api.Chan{ch(0, 1, 2), ch(1, 0, 4), ch(5, 0, 1)}, []api.Chan{ch(0, 1, 0), ch(0, 5, -1)}
	few, enough := []api.Part{part(3, 6), part(1, 3), part(1, 4)}, []api.Part{part(2, 6), part(1, 6), part(0, 5)}
	for at := range 3 {
		for i := range 3 {
			// One that does not hold among those that do.
			chans := append(slices.Clone(good), none...)
			chans[at+i] = bad[i]
			parts := slices.Clone(enough)
			parts[at] = few[i]
			if at == 1 && i == 0 {
				parts[at] = part(2, 6)
			}
			is(t, module(enough, good...), l, api.OK)
			is(t, module(enough, chans...), l, api.ErrLate)
			is(t, module(parts, good...), l, api.ErrShort)
			is(t, module(parts, chans...), l, api.ErrLate)
			is(t, module(few, chans...), l, api.ErrLate)
			is(t, module(few, bad...), l, api.ErrLate)
			is(t, module(few, none...), l, api.ErrShort)
			is(t, module(few), l, api.ErrShort)
			is(t, module(nil, bad[i:]...), l, api.ErrLate)
		}
	}
}

// divisor of n, drawn, or now and then a number that is none.
func divisor(r *rand.Rand, n int64) int64 {
	if n < 1 || r.IntN(12) == 0 {
		return r.Int64N(12) - 1
	}
	for {
		if d := 1 + r.Int64N(n); n%d == 0 {
			return d
		}
	}
}

// about is n, or one less, or one more, now and then 0 or much more: more often what holds, where up tells the side on which that is.
func about(r *rand.Rand, n int64, up bool) int64 {
	if r.IntN(6) == 0 {
		return []int64{0, -1, n - 1, n + 1}[r.IntN(4)]
	}
	if up {
		return n + r.Int64N(3)
	}
	return n - r.Int64N(3)
}

// drawn is a row, and a module of which about as much is asked as the row gives.
func drawn(r *rand.Rand) (api.Config, []api.Run) {
	n := r.IntN(5)
	l := make([]api.Run, 1+r.IntN(12))
	for at := range l {
		l[at] = api.Run{Part: r.IntN(n+1) - 1, N: 1 + r.Int64N(4)}
	}
	w := ticks(l)
	var c api.Config
	for p := range n {
		period := divisor(r, int64(len(w)))
		c.Parts = append(c.Parts, part(about(r, budget(w, p, period), false), period))
	}
	for range r.IntN(4) {
		from, to := r.IntN(n+1), r.IntN(n+1)
		c.Chans = append(c.Chans, ch(from, to, about(r, late(w, from, to), true)))
	}
	return c, l
}

// TestDrawn: drawn modules, held against the second reckoning.
func TestDrawn(t *testing.T) {
	r := rand.New(rand.NewPCG(9, 1))
	often := map[api.Errno]int{}
	for range 20000 {
		c, l := drawn(r)
		want := holds(c, ticks(l))
		is(t, c, l, want)
		often[want]++
	}
	for _, why := range []api.Errno{api.OK, api.ErrLate, api.ErrShort} {
		if often[why] < 1000 {
			t.Errorf("no more than %d were answered %d", often[why], int(why))
		}
	}
}

// TestFar: R1: channels and partitions of numbers of any size, and a great many.
func TestFar(t *testing.T) {
	numbers := append(odd(), -1, 0, 1, 7)
	for _, l := range [][]api.Run{nil, row(0, greatest), row(0, greatest, 1, 7, 0, least, -1, greatest), spelt("ab.")} {
		for _, n := range numbers {
			for _, m := range numbers {
				for _, c := range []api.Config{module(nil, ch(int(n), int(m), 1)), module(nil, ch(0, int(n), m)), module(nil, ch(int(n), 0, m)), module([]api.Part{part(n, m)}), module([]api.Part{part(0, n), part(m, n)}, ch(1, 1, n))} {
					if got := bound.Holds(c, l); got != api.OK && got != api.ErrLate && got != api.ErrShort {
						t.Fatalf("Holds(%+v, %s): %d", c, short(l), int(got))
					}
				}
			}
		}
	}
	is(t, module([]api.Part{part(7, 7)}, ch(0, 0, 1)), row(0, greatest), api.OK)
	is(t, module([]api.Part{part(greatest, greatest)}, ch(0, 0, 1)), row(0, greatest), api.OK)
	is(t, module([]api.Part{part(greatest-1, greatest)}, ch(1, 0, 1), ch(0, 1, greatest-1)), row(0, greatest-1, 1, 1), api.OK)
	is(t, module(nil, ch(0, 1, greatest-2)), row(0, greatest-1, 1, 1), api.ErrLate)
	const many = 1 << 16
	chans := slices.Repeat([]api.Chan{ch(0, 1, 2), ch(0, 9, 0)}, many)
	parts := slices.Concat([]api.Part{part(2, 6), part(1, 6)}, make([]api.Part, many))
	is(t, module(parts, chans...), spelt("aab..."), api.OK)
	is(t, module(append(parts, part(1, 6)), chans...), spelt("aab..."), api.ErrShort)
	is(t, module(parts, append(chans, ch(0, 1, 1))...), spelt("aab..."), api.ErrLate)
}
