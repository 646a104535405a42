package sample

import (
	"slices"

	"horarium/api"
)

// Muddle turns one thing of c, if there is one of the kind.
func Muddle(draw func(below int) int, c *api.Config) {
	switch k := draw(12); {
	case k < 5 && len(c.Parts) > 0:
		muddlePart(draw, c, &c.Parts[draw(len(c.Parts))])
	case k < 8 && len(c.Chans) > 0:
		muddleChan(draw, &c.Chans[draw(len(c.Chans))])
	case k < 11 && len(c.Tables) > 0:
		i := draw(len(c.Tables))
		c.Tables[i] = muddledTable(draw, c.Tables[i])
	case k == 11:
		muddleLists(draw, c)
	}
}

func muddleLists(draw func(below int) int, c *api.Config) {
	switch draw(6) {
	case 0:
		c.Parts = slices.Repeat(c.Parts, draw(3))
	case 1:
		c.Chans = slices.Repeat(c.Chans, draw(4))
	case 2:
		c.Tables = slices.Repeat(c.Tables, draw(3))
	case 3:
		c.Parts = c.Parts[:draw(len(c.Parts)+1)]
	default:
		c.Tables = append(c.Tables, Idle(1+int64(draw(9))))
	}
}

func muddlePart(draw func(below int) int, c *api.Config, x *api.Part) {
	switch draw(9) {
	case 0:
		x.Name = c.Parts[draw(len(c.Parts))].Name
	case 1:
		x.Name = []string{"", "a", "m_", "9", "A", "a b", "twelve_chars", "thirteen_char"}[draw(8)]
	case 2:
		x.Procs = slices.Repeat(x.Procs, draw(4))
	case 3:
		x.Health[draw(5)] = int(near(draw, 2))
	case 4:
		x.Budget = near(draw, x.Budget)
	case 5:
		x.Period = near(draw, x.Period)
	case 6:
		x.Sched, x.Stop = !x.Sched, x.Stop != x.Sched
	default:
		if len(x.Procs) > 0 {
			y := &x.Procs[draw(len(x.Procs))]
			y.Entry, y.Prio = int(near(draw, int64(y.Entry))), int(near(draw, int64(y.Prio)))
		}
	}
}

func muddleChan(draw func(below int) int, x *api.Chan) {
	switch draw(6) {
	case 0:
		x.From = int(near(draw, int64(x.From)))
	case 1:
		x.To = int(near(draw, int64(x.To)))
	case 2:
		x.Cap = int(near(draw, int64(x.Cap)))
	case 3:
		x.Queue = !x.Queue
	case 4:
		x.Late = near(draw, x.Late)
	default:
		x.Max = uint32(draw(1<<16))<<16 | uint32(draw(1<<16))
	}
}

// muddledTable is l with something turned.
func muddledTable(draw func(below int) int, l []api.Node) []api.Node {
	if len(l) == 0 {
		return Idle(3)
	}
	x := &l[draw(len(l))]
	switch draw(6) {
	case 0:
		x.Part = int(near(draw, int64(x.Part)))
	case 1:
		x.N = near(draw, x.N)
	case 2:
		x.Kind = 1 + draw(5)
	case 3:
		return l[:draw(len(l))]
	case 4:
		return Times(1+int64(draw(1<<draw(14))), l)
	default:
		return Chain(draw(17), 1, l)
	}
	return l
}

// near is n, or a number beside it, or one of those at which something begins or ends.
func near(draw func(below int) int, n int64) int64 {
	if draw(2) == 0 {
		return n + int64(draw(3)) - 1
	}
	some := append(Odd(), -1, 0, 1, 2, 3, 5, 6, 8, 9, 12, 128, 129, 255, 256, 511, 512, 4095, 4096, 4097)
	return some[draw(len(some))]
}
