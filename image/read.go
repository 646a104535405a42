package image

import (
	"horarium/api"
	"horarium/code"
)

// reader goes through bytes number by number. It asks nothing of them: where a number is not there, 0 is read. Only how many there are of a thing is held at how many there may be, so that no number makes a call long.
type reader struct {
	rest []byte // what is still to come
}

// module goes through a module.
func (r *reader) module() api.Config {
	var c api.Config
	for range min(r.number(), api.MaxParts) {
		c.Parts = append(c.Parts, r.part())
	}
	for range min(r.number(), api.MaxChans) {
		c.Chans = append(c.Chans, r.channel())
	}
	for range min(r.number(), api.MaxTables) {
		c.Tables = append(c.Tables, r.table())
	}
	return c
}

// part goes through a partition.
func (r *reader) part() api.Part {
	x := api.Part{Name: r.name(), Budget: r.number(), Period: r.number(), Sched: r.flag(), Stop: r.flag()}
	for range min(r.number(), api.MaxProcs) {
		x.Procs = append(x.Procs, api.Proc{Entry: r.small(), Prio: r.small()})
	}
	for i := range x.Health {
		x.Health[i] = r.small()
	}
	return x
}

// channel goes through a channel.
func (r *reader) channel() api.Chan {
	return api.Chan{From: r.small(), To: r.small(), Queue: r.flag(), Cap: r.small(), Max: uint32(r.number()), Late: r.number()}
}

// table goes through a table.
func (r *reader) table() []api.Node {
	var t []api.Node
	for range min(r.number(), api.MaxNodes) {
		t = append(t, api.Node{Kind: r.small(), Part: r.small(), N: r.number()})
	}
	return t
}

// name goes through a partition's name.
func (r *reader) name() string {
	s, k := code.Cut(r.rest, api.MaxName)
	r.rest = r.rest[k:]
	return s
}

// number goes through a number.
func (r *reader) number() int64 {
	n, k := code.Get(r.rest)
	r.rest = r.rest[k:]
	return n
}

// small goes through a number that is kept as an int.
func (r *reader) small() int {
	return int(r.number())
}

// flag goes through a number that is 1 or 0.
func (r *reader) flag() bool {
	return r.number() == 1
}
