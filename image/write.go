package image

import (
	"horarium/api"
	"horarium/code"
)

// module is c as bytes, not yet sealed.
func module(c api.Config) []byte {
	out := put([]byte(front), len(c.Parts))
	for _, x := range c.Parts {
		out = append(out, part(x)...)
	}
	out = put(out, len(c.Chans))
	for _, x := range c.Chans {
		out = append(out, channel(x)...)
	}
	out = put(out, len(c.Tables))
	for _, t := range c.Tables {
		out = append(out, table(t)...)
	}
	return out
}

// part is x as bytes.
func part(x api.Part) []byte {
	out := put(code.Text(nil, x.Name), x.Budget, x.Period)
	out = code.Flag(code.Flag(out, x.Sched), x.Stop)
	out = put(out, len(x.Procs))
	for _, y := range x.Procs {
		out = put(out, y.Entry, y.Prio)
	}
	return put(out, x.Health[:]...)
}

// channel is x as bytes.
func channel(x api.Chan) []byte {
	out := code.Flag(put(nil, x.From, x.To), x.Queue)
	return put(put(out, x.Cap), int64(x.Max), x.Late)
}

// table is t as bytes.
func table(t []api.Node) []byte {
	out := put(nil, len(t))
	for _, x := range t {
		out = put(put(out, x.Kind, x.Part), x.N)
	}
	return out
}

// put is out, which is the caller's own, with the numbers of l behind it.
func put[T int | int64](out []byte, l ...T) []byte {
	for _, n := range l {
		// Each alone: code.Put writes out anew all that it puts a number behind.
		out = append(out, code.Put(nil, int64(n))...)
	}
	return out
}
