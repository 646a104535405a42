package sample

import (
	"slices"

	"horarium/api"
)

// World is a plain module at work: in its tick a partition does all that it may: it changes the table, stops all, receives and sends by each channel of its. What it sends and asks for is a number that it never sent before.
type World struct {
	Saw            [][]int // of each partition
	c              api.Config
	gone           []int   // ticks of each partition
	held           [][]int // of each channel
	pending, table int
	asked, stopped bool
}

// What calls tell, beside numbers above 0.
const done, full, empty = -1, -2, -3

// Begin is the world of c; a queue has room for one value.
func Begin(c api.Config) *World {
	n := len(c.Parts)
	return &World{c: c, held: make([][]int, len(c.Chans)), gone: make([]int, n), Saw: make([][]int, n)}
}

// Tick is one of partition p.
func (w *World) Tick(p int) {
	if w.stopped {
		return
	}
	w.see(p, w.table)
	w.gone[p]++
	if w.c.Parts[p].Sched {
		w.pending = w.gone[p]*len(w.c.Parts) + p
	}
	if w.c.Parts[p].Stop {
		w.asked = true
	}
	for i, x := range w.c.Chans {
		if x.To == p {
			w.receive(i, p)
		}
	}
	for i, x := range w.c.Chans {
		if x.From == p {
			w.send(i, p)
		}
	}
}

// Frame is all ticks of l, and its end.
func (w *World) Frame(l []api.Run) {
	for _, p := range Ticks(l) {
		if p >= 0 {
			w.Tick(p)
		}
	}
	w.End()
}

// see: partition p sees n.
func (w *World) see(p, n int) {
	w.Saw[p] = append(w.Saw[p], n)
}

func (w *World) receive(i, p int) {
	if len(w.held[i]) == 0 {
		w.see(p, empty)
		return
	}
	w.see(p, w.held[i][0])
	if w.c.Chans[i].Queue {
		w.held[i] = nil
	}
}

func (w *World) send(i, p int) {
	if w.c.Chans[i].Queue && len(w.held[i]) > 0 {
		w.see(p, full)
		return
	}
	w.see(p, done)
	w.held[i] = []int{w.gone[p]}
}

// End is that of a frame.
func (w *World) End() {
	w.stopped = w.asked
	if w.pending > 0 {
		w.table, w.pending = w.pending, 0
	}
}

// Same: can nobody tell w from o?
func (w *World) Same(o *World) bool {
	return w.pending == o.pending && w.table == o.table && w.asked == o.asked && w.stopped == o.stopped && slices.EqualFunc(w.held, o.held, slices.Equal) && slices.EqualFunc(w.Saw, o.Saw, slices.Equal)
}
