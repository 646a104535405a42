package sample

import (
	"math"
	"slices"

	"horarium/api"
)

// Full is a right module of as many partitions, channels and tables as there may be, with something of each kind.
func Full() api.Config {
	turn := Seq(Window(0, 1), Window(1, 1), Window(2, 1), Window(3, 1), Window(4, 1), Window(5, 1))
	return api.Config{
		Parts: []api.Part{
			{Name: "a", Procs: []api.Proc{{}}},
			{Name: "b_9", Budget: 1, Period: 6, Sched: true, Procs: []api.Proc{{Entry: 4, Prio: 7}, {Entry: 1}}},
			{Name: "twelve_chars", Stop: true, Procs: []api.Proc{{Entry: 511, Prio: 255}, {Prio: 1}, {Entry: 8}}, Health: [5]int{api.Ignore, api.Restart, api.Halt, api.Ignore, api.Restart}},
			{Name: "d", Budget: 2, Period: 12, Procs: []api.Proc{{Prio: 3}, {Entry: 12, Prio: 3}}, Health: [5]int{api.Halt, api.Halt, api.Halt, api.Halt, api.Halt}},
			{Name: "e0", Sched: true, Stop: true, Procs: []api.Proc{{Entry: 16}, {Entry: 16}, {Entry: 16}}},
			{Name: "z_z", Budget: 1, Period: 12, Procs: []api.Proc{{Entry: 100, Prio: 100}, {}}, Health: [5]int{4: api.Halt}},
		},
		Chans: []api.Chan{
			{From: 0, To: 1, Queue: true, Cap: 8, Max: math.MaxUint32, Late: 12},
			{From: 1, To: 0},
			{From: 2, To: 3, Queue: true, Cap: 1, Max: 1},
			{From: 3, To: 4, Max: 300, Late: 10},
			{From: 4, To: 5, Late: 4096},
			{From: 5, To: 0, Max: 7, Late: 12},
			{From: 0, To: 2, Queue: true, Cap: 3, Max: 9},
			{From: 0, To: 1, Max: 5},
		},
		Tables: [][]api.Node{
			Times(2, turn),
			Seq(Window(1, 2), Window(3, 2), Idle(1), Window(0, 1), Window(1, 1), Window(2, 1), Window(4, 1), Window(5, 3)),
			Times(4, turn),
		},
	}
}

// Rights are so many right modules, drawn, by a draw of numbers below another one: of any number of partitions, channels and tables that there may be.
func Rights(draw func(below int) int, many int) []api.Config {
	var out []api.Config
	for range many {
		n := 1 + draw(api.MaxParts)
		var c api.Config
		for range 1 + draw(api.MaxTables) {
			c.Tables = append(c.Tables, rightTable(draw, n))
		}
		frames := make([][]int, len(c.Tables))
		for i, t := range c.Tables {
			frames[i] = Ticks(Leaves(t))
		}
		for p := range n {
			c.Parts = append(c.Parts, rightPart(draw, frames, p))
		}
		for range draw(api.MaxChans+1) * min(1, n-1) {
			c.Chans = append(c.Chans, rightChan(draw, frames, n))
		}
		out = append(out, c)
	}
	return out
}

// rightTable is a table for n partitions: runs one behind the other, or often, or as Drawn draws them.
func rightTable(draw func(below int) int, n int) []api.Node {
	if draw(2) == 0 {
		var l [][]api.Node
		for _, x := range Tossed(draw, 1+draw(12), n) {
			if x.Part < 0 {
				l = append(l, Idle(x.N))
			} else {
				l = append(l, Window(x.Part, x.N))
			}
		}
		return Times(int64(1+draw(6)), Seq(l...))
	}
	for {
		x := uint64(draw(1 << 30))
		t := Drawn(&x, draw(5))
		for at := range t {
			t[at].Part %= n
		}
		if w := Ticks(Leaves(t)); len(t) <= api.MaxNodes && len(w) <= api.MaxFrame && len(Together(w)) <= api.MaxRuns {
			return t
		}
	}
}

// rightPart is the partition p, of which no more is asked than it has in each of the frames.
func rightPart(draw func(below int) int, frames [][]int, p int) api.Part {
	x := api.Part{Name: rightName(draw, p), Sched: draw(6) == 0, Stop: draw(6) == 0}
	for range 1 + draw(api.MaxProcs) {
		x.Procs = append(x.Procs, api.Proc{Entry: draw(api.MaxProg), Prio: draw(256)})
	}
	for i := range x.Health {
		x.Health[i] = []int{api.Ignore, api.Restart, api.Halt}[draw(3)]
	}
	period := 0
	for _, w := range frames {
		period = common(period, len(w))
	}
	if n := 1 + draw(4); period%n == 0 {
		period /= n
	}
	budget := int64(period)
	for _, w := range frames {
		budget = min(budget, Budget(w, p, int64(period)))
	}
	if budget > 0 && draw(3) > 0 {
		x.Budget, x.Period = budget-int64(draw(int(budget))), int64(period)
	}
	return x
}

// common is the greatest number that divides both a and b.
func common(a, b int) int {
	for b > 0 {
		a, b = b, a%b
	}
	return a
}

// rightName is a name of any length that tells n.
func rightName(draw func(below int) int, n int) string {
	const first, all = "abcdefghijklmnopqrstuvwxyz", "abcdefghijklmnopqrstuvwxyz0123456789_"
	if draw(4) == 0 {
		return first[n : n+1]
	}
	s := []byte{first[draw(len(first))]}
	for range draw(api.MaxName - 1) {
		s = append(s, all[draw(len(all))])
	}
	return string(append(s, byte('0'+n)))
}

// rightChan is a channel between two of n partitions, of which no more is asked than what the frames give.
func rightChan(draw func(below int) int, frames [][]int, n int) api.Chan {
	from, step := draw(n), 1+draw(n-1)
	x := api.Chan{From: from, To: (from + step) % n, Max: uint32(draw(1 << 30))}
	if x.Queue = draw(2) == 0; x.Queue {
		x.Cap = 1 + draw(api.MaxQueue)
	}
	var late []int64
	for _, w := range frames {
		late = append(late, Late(w, x.From, x.To))
	}
	if !slices.Contains(late, -1) && draw(4) > 0 {
		x.Late = min(api.MaxFrame, max(1, slices.Max(late))+int64(draw(4)))
	}
	return x
}
