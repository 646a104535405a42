package config_test

import (
	"math/rand/v2"
	"slices"
	"testing"

	"horarium/api"
	"horarium/config"
	"horarium/sample"
)

// slip makes one fault.
type slip struct {
	fault
	make func(c *api.Config)
}

// slips are such as can be made of c, a right module of fewer partitions than there may be, of the first, one between, and the last of each kind; each leaves those that stand behind it in the row to be made as well.
func slips(c api.Config) []slip {
	var out []slip
	add := func(kind, place, step int, why api.Errno, make func(c *api.Config)) {
		out = append(out, slip{fault{kind, place, step, why}, make})
	}
	for _, p := range places(len(c.Parts)) {
		turn := func(step int, why api.Errno, f func(x *api.Part)) {
			add(1, p, step, why, func(c *api.Config) { f(&c.Parts[p]) })
		}
		turn(0, api.ErrName, func(x *api.Part) { x.Name = "" })
		turn(0, api.ErrName, func(x *api.Part) { x.Name = "No" })
		turn(1, api.ErrPart, func(x *api.Part) { x.Procs = nil })
		turn(1, api.ErrPart, func(x *api.Part) { x.Procs = make([]api.Proc, 4) })
		turn(1, api.ErrPart, func(x *api.Part) { x.Procs = []api.Proc{{}, {Entry: 512}} })
		turn(1, api.ErrPart, func(x *api.Part) { x.Procs = []api.Proc{{}, {}, {Prio: -1}} })
		turn(1, api.ErrPart, func(x *api.Part) { x.Health[4] = 3 })
		turn(1, api.ErrPart, func(x *api.Part) { x.Budget = 4097 })
		turn(1, api.ErrPart, func(x *api.Part) { x.Period = -1 })
		if p > 0 {
			add(1, p, 0, api.ErrName, func(c *api.Config) { c.Parts[p].Name = c.Parts[p-1].Name })
		}
	}
	for _, i := range places(len(c.Chans)) {
		for _, f := range []func(x *api.Chan){func(x *api.Chan) { x.From = 6 }, func(x *api.Chan) { x.To = -1 }, func(x *api.Chan) { x.To = x.From }, func(x *api.Chan) { x.Cap = 9 }, func(x *api.Chan) { x.Late = 4097 }} {
			add(2, i, 0, api.ErrChan, func(c *api.Config) { f(&c.Chans[i]) })
		}
	}
	for _, i := range places(len(c.Tables)) {
		turn := func(step int, why api.Errno, l []api.Node) {
			add(3, i, step, why, func(c *api.Config) { c.Tables[i] = l })
		}
		turn(0, api.ErrForm, nil)
		turn(0, api.ErrLong, make([]api.Node, 129))
		turn(0, api.ErrDeep, sample.Chain(16, 1, idle(1)))
		turn(0, api.ErrTable, idle(4097))
		turn(1, api.ErrLong, times(2048, seq(idle(1), window(0, 1))))
		turn(2, api.ErrPart, window(len(c.Parts), 12))
		turn(3, api.ErrLate, window(0, 12))
		turn(3, api.ErrShort, window(2, 12))
	}
	add(0, 0, 0, api.ErrLong, func(c *api.Config) { c.Chans = append(c.Chans, make([]api.Chan, 9)...) })
	add(0, 0, 0, api.ErrLong, func(c *api.Config) { c.Tables = append(c.Tables, nil, nil, nil) })
	add(0, 0, 0, api.ErrLong, func(c *api.Config) { c.Parts = append(c.Parts, make([]api.Part, 6)...) })
	add(0, 0, 0, api.ErrLong, func(c *api.Config) { c.Parts = nil })
	add(0, 0, 0, api.ErrLong, func(c *api.Config) { c.Tables = nil })
	return out
}

// some are right modules of which slips can be made: 0 tells 1 within 12 ticks, and 1 must have one in each period.
func some() []api.Config {
	five := full()
	five.Parts = five.Parts[:5]
	five.Chans = []api.Chan{five.Chans[0], five.Chans[1], five.Chans[2], five.Chans[6], five.Chans[7]}
	for i, t := range five.Tables {
		for at, x := range t {
			if x.Part == 5 {
				t[at] = api.Node{Kind: api.Idle, N: x.N}
			}
		}
		five.Tables[i] = t
	}
	three := api.Config{Parts: slices.Clone(five.Parts[:3]), Chans: slices.Clone(five.Chans[:2]), Tables: [][]api.Node{seq(window(0, 3), window(1, 6), window(2, 3)), times(2, seq(window(1, 3), idle(2), window(0, 1)))}}
	three.Parts[1].Period = 12
	return []api.Config{five, three}
}

// TestOne: each fault alone.
func TestOne(t *testing.T) {
	for _, c := range some() {
		is(t, c, api.OK, -1)
		for _, x := range slips(c) {
			one := config.Copy(c)
			x.make(&one)
			is(t, one, x.why, x.place)
		}
	}
}

// TestTwo: of two faults the first in the document's order is told.
func TestTwo(t *testing.T) {
	told := map[[2]fault]int{}
	for _, c := range some() {
		all := slips(c)
		for i, x := range all {
			for _, y := range all[i+1:] {
				if x.kind == y.kind && x.place == y.place && x.step == y.step || x.kind == 3 && x.kind == y.kind && x.place == y.place {
					continue
				}
				both := config.Copy(c)
				x.make(&both)
				y.make(&both)
				why, at := first([]fault{x.fault, y.fault})
				is(t, both, why, at)
				told[[2]fault{x.fault, y.fault}]++
			}
		}
	}
	if len(told) < 500 {
		t.Errorf("no more than %d kinds of two", len(told))
	}
}

// TestWithin: of two faults of one table: what it is none for, a Part that is none, what does not hold.
func TestWithin(t *testing.T) {
	c := some()[1]
	late := []api.Chan{{From: 0, To: 1, Late: 1}}
	for _, x := range []struct {
		l     []api.Node
		chans []api.Chan
		why   api.Errno
	}{
		{seq(window(0, 1), window(3, 1))[:2], late, api.ErrForm}, {append(window(3, 1), window(3, 1)...), late, api.ErrForm}, {slices.Repeat(window(3, 1), 129), late, api.ErrLong}, {times(49, seq(window(0, 1), window(3, 1))), late, api.ErrLong}, {sample.Chain(16, 1, window(3, 1)), late, api.ErrDeep}, {window(3, 4097), late, api.ErrTable},
		{seq(window(0, 12), window(3, 1)), late, api.ErrPart}, {window(3, 12), nil, api.ErrPart}, {seq(window(3, 1), window(0, 12)), nil, api.ErrPart}, {seq(window(5, 12)), late, api.ErrPart},
		{window(0, 12), late, api.ErrLate}, {window(0, 12), nil, api.ErrShort}, {window(0, 5), late, api.ErrLate}, {window(0, 5), nil, api.ErrShort}, {seq(window(0, 6), window(1, 6)), late, api.ErrLate}, {seq(window(0, 6), window(1, 6)), nil, api.OK},
	} {
		one := config.Copy(c)
		one.Chans, one.Tables = x.chans, [][]api.Node{x.l}
		stands(t, x.why == api.OK, x.why, 0, one)
	}
}

// TestMany: drawn modules with up to a few faults at any places: what is told is that of the least place.
func TestMany(t *testing.T) {
	r := rand.New(rand.NewPCG(12, 1))
	often := map[api.Errno]int{}
	for _, c := range drawn(1, 4000) {
		is(t, c, api.OK, -1)
		for range 5 {
			bad := config.Copy(c)
			for range 1 + r.IntN(3) {
				muddle(r, &bad)
			}
			often[agree(t, bad)]++
		}
	}
	for _, why := range []api.Errno{api.OK, api.ErrLong, api.ErrName, api.ErrPart, api.ErrChan, api.ErrForm, api.ErrTable, api.ErrLate, api.ErrShort} {
		if often[why] < 100 {
			t.Errorf("no more than %d were answered %d", often[why], int(why))
		}
	}
}

// near is n, or a number beside it, or one of those at which something begins or ends.
func near(r *rand.Rand, n int64) int64 {
	if r.IntN(2) == 0 {
		return n + int64(r.IntN(3)) - 1
	}
	some := append(sample.Odd(), -1, 0, 1, 2, 3, 5, 6, 8, 9, 12, 128, 129, 255, 256, 511, 512, 4095, 4096, 4097)
	return some[r.IntN(len(some))]
}

// muddle turns one thing of c, if there is one of the kind.
func muddle(r *rand.Rand, c *api.Config) {
	switch k := r.IntN(12); {
	case k < 5 && len(c.Parts) > 0:
		muddlePart(r, c, &c.Parts[r.IntN(len(c.Parts))])
	case k < 8 && len(c.Chans) > 0:
		muddleChan(r, &c.Chans[r.IntN(len(c.Chans))])
	case k < 11 && len(c.Tables) > 0:
		i := r.IntN(len(c.Tables))
		c.Tables[i] = muddled(r, c.Tables[i])
	case k == 11:
		switch r.IntN(6) {
		case 0:
			c.Parts = slices.Repeat(c.Parts, r.IntN(3))
		case 1:
			c.Chans = slices.Repeat(c.Chans, r.IntN(4))
		case 2:
			c.Tables = slices.Repeat(c.Tables, r.IntN(3))
		case 3:
			c.Parts = c.Parts[:r.IntN(len(c.Parts)+1)]
		default:
			c.Tables = append(c.Tables, idle(1+int64(r.IntN(9))))
		}
	}
}

func muddlePart(r *rand.Rand, c *api.Config, x *api.Part) {
	switch r.IntN(9) {
	case 0:
		x.Name = c.Parts[r.IntN(len(c.Parts))].Name
	case 1:
		x.Name = []string{"", "a", "m_", "9", "A", "a b", "twelve_chars", "thirteen_char"}[r.IntN(8)]
	case 2:
		x.Procs = slices.Repeat(x.Procs, r.IntN(4))
	case 3:
		x.Health[r.IntN(5)] = int(near(r, 2))
	case 4:
		x.Budget = near(r, x.Budget)
	case 5:
		x.Period = near(r, x.Period)
	case 6:
		x.Sched, x.Stop = !x.Sched, x.Stop != x.Sched
	default:
		if len(x.Procs) > 0 {
			y := &x.Procs[r.IntN(len(x.Procs))]
			y.Entry, y.Prio = int(near(r, int64(y.Entry))), int(near(r, int64(y.Prio)))
		}
	}
}

func muddleChan(r *rand.Rand, x *api.Chan) {
	switch r.IntN(6) {
	case 0:
		x.From = int(near(r, int64(x.From)))
	case 1:
		x.To = int(near(r, int64(x.To)))
	case 2:
		x.Cap = int(near(r, int64(x.Cap)))
	case 3:
		x.Queue = !x.Queue
	case 4:
		x.Late = near(r, x.Late)
	default:
		x.Max = r.Uint32()
	}
}

// muddled is l with something turned.
func muddled(r *rand.Rand, l []api.Node) []api.Node {
	if len(l) == 0 {
		return idle(3)
	}
	x := &l[r.IntN(len(l))]
	switch r.IntN(6) {
	case 0:
		x.Part = int(near(r, int64(x.Part)))
	case 1:
		x.N = near(r, x.N)
	case 2:
		x.Kind = 1 + r.IntN(5)
	case 3:
		return l[:r.IntN(len(l))]
	case 4:
		return times(1+int64(r.IntN(1<<uint(r.IntN(14)))), l)
	default:
		return sample.Chain(r.IntN(17), 1, l)
	}
	return l
}
