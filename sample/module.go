package sample

import (
	"slices"

	"horarium/api"
)

// Module is a configuration with a partition for each letter: s is Sched, t is Stop, b is both, - is neither.
func Module(letters string, chans ...api.Chan) api.Config {
	c := api.Config{Chans: chans}
	for _, x := range []byte(letters) {
		c.Parts = append(c.Parts, api.Part{Sched: x == 's' || x == 'b', Stop: x == 't' || x == 'b'})
	}
	return c
}

// Last is a channel that holds the last value alone.
func Last(from, to int) api.Chan {
	return api.Chan{From: from, To: to}
}

// Queue is a channel that holds many values.
func Queue(from, to int) api.Chan {
	return api.Chan{From: from, To: to, Queue: true, Cap: 2}
}

// Within is a channel with a Late.
func Within(from, to int, late int64) api.Chan {
	return api.Chan{From: from, To: to, Late: late}
}

// Owed is a partition with a Budget in each Period.
func Owed(budget, period int64) api.Part {
	return api.Part{Budget: budget, Period: period}
}

// Joined is a module of partitions and channels.
func Joined(parts []api.Part, chans ...api.Chan) api.Config {
	return api.Config{Parts: parts, Chans: chans}
}

// Few is each module of up to three partitions, and up to so many channels between these and such as are none.
func Few(most int) []api.Config {
	var out []api.Config
	for _, letters := range Each([]byte("-stb"), 3) {
		for _, chans := range Each(channels(len(letters)), most) {
			out = append(out, Module(string(letters), chans...))
		}
	}
	return out
}

// channels are all that there are between n partitions, the one ahead of them and the one behind them.
func channels(n int) []api.Chan {
	var out []api.Chan
	for from := -1; from <= n; from++ {
		for to := -1; to <= n; to++ {
			out = append(out, Last(from, to), Queue(from, to))
		}
	}
	return out
}

// Modules: many of any number of partitions up to most, and of channels, a few of which end at none.
func Modules(most int) []api.Config {
	var out []api.Config
	x := uint64(7)
	for range 3000 {
		n := pick(&x, most+1)
		letters := make([]byte, n)
		for p := range letters {
			letters[p] = "-------------stb"[pick(&x, 16)]
		}
		chans := make([]api.Chan, pick(&x, 12))
		for i := range chans {
			chans[i] = api.Chan{From: pick(&x, n+2) - 1, To: pick(&x, n+2) - 1, Queue: pick(&x, 3) == 0}
		}
		out = append(out, Module(string(letters), chans...))
	}
	return out
}

// RoomyModule is c with room behind each of its lists, filled with those of more, or with what no module may have.
func RoomyModule(c, more api.Config) api.Config {
	c.Parts = Roomy(c.Parts, more.Parts)
	c.Chans = Roomy(c.Chans, more.Chans)
	c.Tables = Roomy(c.Tables, slices.Concat(more.Tables, [][]api.Node{Idle(-1), nil}))
	for p, x := range c.Parts {
		c.Parts[p].Procs = Roomy(x.Procs, []api.Proc{{Entry: -1, Prio: -1}, {Entry: 9999}, {}, {}})
	}
	for i, t := range c.Tables {
		c.Tables[i] = Roomy(t, slices.Concat(Idle(-1), Window(9, 9)))
	}
	return c
}

// WholeModule is a copy of c, all room included.
func WholeModule(c api.Config) api.Config {
	c.Parts = slices.Clone(Whole(c.Parts))
	c.Chans = slices.Clone(Whole(c.Chans))
	c.Tables = slices.Clone(Whole(c.Tables))
	for p, x := range c.Parts {
		c.Parts[p].Procs = slices.Clone(Whole(x.Procs))
	}
	for i, t := range c.Tables {
		c.Tables[i] = slices.Clone(Whole(t))
	}
	return c
}
