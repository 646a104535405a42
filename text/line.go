package text

import (
	"math"
	"strings"

	"horarium/api"
	"horarium/config"
)

// line goes through a line, and puts what it tells behind what c has.
func (r *reader) line(c *api.Config) {
	if r.end() {
		return
	}
	if r.take('#') {
		r.rest = ""
		return
	}
	switch r.upto(' ') {
	case "part":
		c.Parts = append(c.Parts, r.part())
	case "chan":
		c.Chans = append(c.Chans, r.channel(c.Parts))
	case "table":
		r.must(' ')
		c.Tables = append(c.Tables, r.table(func() int { return r.known(c.Parts, ':') }))
	default:
		r.fail()
	}
}

// part goes through the words of a partition.
func (r *reader) part() api.Part {
	var x api.Part
	r.must(' ')
	x.Name = r.name()
	r.must(' ')
	x.Budget = r.number(most)
	r.must(' ')
	x.Period = r.number(most)
	r.must(' ')
	x.Sched, x.Stop = r.flags()
	r.must(' ')
	x.Health = r.health()
	r.must(' ')
	x.Procs = r.procs()
	return x
}

// channel goes through the words of a channel between two of parts.
func (r *reader) channel(parts []api.Part) api.Chan {
	var x api.Chan
	r.must(' ')
	x.From = r.known(parts, ' ')
	r.must(' ')
	x.To = r.known(parts, ' ')
	r.must(' ')
	x.Queue, x.Cap = r.kind()
	r.must(' ')
	x.Max = uint32(r.number(math.MaxUint32))
	r.must(' ')
	x.Late = r.number(most)
	return x
}

// name goes through a name.
func (r *reader) name() string {
	s := r.upto(' ')
	if !config.Name(s) {
		r.fail()
	}
	// In memory of its own, so that the text out of which it is cut is not kept.
	return strings.Clone(s)
}

// known goes through the name of one of parts, and tells which it is; the first of those that have it.
func (r *reader) known(parts []api.Part, stop byte) int {
	s := r.upto(stop)
	for p, x := range parts {
		if x.Name == s {
			return p
		}
	}
	r.fail()
	return 0
}

// flags goes through whether a partition may change the schedule, and stop all.
func (r *reader) flags() (bool, bool) {
	if r.take('-') {
		return false, false
	}
	sched, stop := r.take('s'), r.take('t')
	if !sched && !stop {
		r.fail()
	}
	return sched, stop
}

// health goes through an action for each fault.
func (r *reader) health() [5]int {
	var out [5]int
	for i := range out {
		switch r.next() {
		case '0':
			out[i] = api.Ignore
		case '1':
			out[i] = api.Restart
		case '2':
			out[i] = api.Halt
		default:
			r.fail()
		}
	}
	return out
}

// procs goes through one process, or several.
func (r *reader) procs() []api.Proc {
	var out []api.Proc
	for more := true; more; more = r.take(',') {
		entry := r.number(most)
		r.must(':')
		out = append(out, api.Proc{Entry: int(entry), Prio: int(r.number(most))})
	}
	return out
}

// kind goes through whether a channel is a queue, and of how many values.
func (r *reader) kind() (bool, int) {
	if r.take('q') {
		return true, int(r.number(most))
	}
	r.must('s')
	return false, 0
}
