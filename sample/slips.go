package sample

import (
	"slices"

	"horarium/api"
)

// Slip makes one fault in a module: of partitions (Kind 1), channels (2), tables (3), or how many there are (0), of which one, at which step it is told, and what.
type Slip struct {
	Kind, Place, Step int
	Why               api.Errno
	Make              func(c *api.Config)
}

// Ends are the first, one between, the last of n.
func Ends(n int) []int {
	return []int{0, n / 2, n - 1}
}

// Slips are such as can be made of c, a right module of fewer partitions than there may be, of the first, one between, and the last of each kind; each leaves those that stand behind it in the row to be made as well.
func Slips(c api.Config) []Slip {
	out := slices.Concat(slipParts(c), slipChans(c), slipTables(c))
	for _, f := range []func(c *api.Config){
		func(c *api.Config) { c.Chans = append(c.Chans, make([]api.Chan, 9)...) }, func(c *api.Config) { c.Tables = append(c.Tables, nil, nil, nil) }, func(c *api.Config) { c.Parts = append(c.Parts, make([]api.Part, 6)...) }, func(c *api.Config) { c.Parts = nil }, func(c *api.Config) { c.Tables = nil },
	} {
		out = append(out, Slip{Why: api.ErrLong, Make: f})
	}
	return out
}

func slipParts(c api.Config) []Slip {
	var out []Slip
	for _, p := range Ends(len(c.Parts)) {
		turn := func(step int, why api.Errno, l ...func(x *api.Part)) {
			for _, f := range l {
				out = append(out, Slip{1, p, step, why, func(c *api.Config) { f(&c.Parts[p]) }})
			}
		}
		turn(0, api.ErrName, func(x *api.Part) { x.Name = "" }, func(x *api.Part) { x.Name = "No" }, func(x *api.Part) { x.Name = "thirteen_char" })
		turn(1, api.ErrPart, func(x *api.Part) { x.Procs = nil }, func(x *api.Part) { x.Procs = make([]api.Proc, 4) })
		for _, y := range []api.Proc{{Entry: 512}, {Entry: -1}, {Prio: 256}, {Prio: -1}} {
			turn(1, api.ErrPart, func(x *api.Part) { x.Procs = []api.Proc{y} }, func(x *api.Part) { x.Procs = []api.Proc{{}, {}, y} })
		}
		turn(1, api.ErrPart, func(x *api.Part) { x.Health[4] = 3 }, func(x *api.Part) { x.Health[0] = -1 })
		turn(1, api.ErrPart, func(x *api.Part) { x.Budget = 4097 }, func(x *api.Part) { x.Budget = -1 }, func(x *api.Part) { x.Budget, x.Period = 3, 2 }, func(x *api.Part) { x.Budget, x.Period = 1, 4097 })
		turn(1, api.ErrPart, func(x *api.Part) { x.Period = -1 }, func(x *api.Part) { x.Budget, x.Period = 0, 1 }, func(x *api.Part) { x.Budget, x.Period = 1, 0 })
		if p > 0 {
			out = append(out, Slip{1, p, 0, api.ErrName, func(c *api.Config) { c.Parts[p].Name = c.Parts[p-1].Name }})
		}
	}
	return out
}

func slipChans(c api.Config) []Slip {
	var out []Slip
	for _, i := range Ends(len(c.Chans)) {
		for _, f := range []func(x *api.Chan){
			func(x *api.Chan) { x.From = 6 }, func(x *api.Chan) { x.From = -1 }, func(x *api.Chan) { x.To = 6 }, func(x *api.Chan) { x.To = -1 }, func(x *api.Chan) { x.To = x.From },
			func(x *api.Chan) { x.Cap = 9 }, func(x *api.Chan) { x.Queue, x.Cap = true, 9 }, func(x *api.Chan) { x.Queue, x.Cap = true, 0 }, func(x *api.Chan) { x.Queue, x.Cap = false, 1 }, func(x *api.Chan) { x.Late = 4097 }, func(x *api.Chan) { x.Late = -1 },
		} {
			out = append(out, Slip{2, i, 0, api.ErrChan, func(c *api.Config) { f(&c.Chans[i]) }})
		}
	}
	return out
}

func slipTables(c api.Config) []Slip {
	var out []Slip
	for _, i := range Ends(len(c.Tables)) {
		turn := func(step int, why api.Errno, l ...[]api.Node) {
			for _, t := range l {
				out = append(out, Slip{3, i, step, why, func(c *api.Config) { c.Tables[i] = t }})
			}
		}
		turn(0, api.ErrForm, nil, Idle(0), Window(6, 1), []api.Node{{Kind: 5, N: 1}}, slices.Concat(Idle(1), Idle(1)), Times(2, nil))
		turn(0, api.ErrLong, make([]api.Node, 129))
		turn(0, api.ErrDeep, Chain(16, 1, Idle(1)))
		turn(0, api.ErrTable, Idle(4097), Times(4097, Idle(1)))
		turn(1, api.ErrLong, Times(2048, Seq(Idle(1), Window(0, 1))))
		turn(2, api.ErrPart, Window(len(c.Parts), 12))
		turn(3, api.ErrLate, Window(0, 12))
		turn(3, api.ErrShort, Window(2, 12))
	}
	return out
}

// Slippery are right modules of which slips can be made: 0 tells 1 within 12 ticks, and 1 must have one in each period.
func Slippery() []api.Config {
	five := Full()
	five.Parts = five.Parts[:5]
	five.Chans = []api.Chan{five.Chans[0], five.Chans[1], five.Chans[2], five.Chans[6], five.Chans[7]}
	for i, t := range five.Tables {
		for at, x := range t {
			if x.Part == 5 {
				t[at] = api.Node{Kind: api.Idle, N: x.N}
			}
		}
		five.Tables[i] = t
	}
	three := api.Config{Parts: slices.Clone(five.Parts[:3]), Chans: slices.Clone(five.Chans[:2]), Tables: [][]api.Node{Seq(Window(0, 3), Window(1, 6), Window(2, 3)), Times(2, Seq(Window(1, 3), Idle(2), Window(0, 1)))}}
	three.Parts[1].Period = 12
	return []api.Config{five, three}
}
