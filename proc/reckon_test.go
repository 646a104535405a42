package proc_test

import (
	"math"
	"math/rand/v2"
	"slices"
	"testing"

	"horarium/api"
	"horarium/proc"
	"horarium/sample"
)

// step is what was done to a table: a Sleep, an End or a Reset.
type step struct {
	what  string
	i     int
	until int64
}

// second is the second reckoning of a table: its Prios, and all that was done to it. What it tells it looks up there anew.
type second struct {
	prios []int
	done  []step
}

// since is what was done behind the last Reset.
func (w *second) since() []step {
	at := len(w.done)
	for at > 0 && w.done[at-1].what != "reset" {
		at--
	}
	return w.done[at:]
}

// is tells whether i is one of the processes.
func (w *second) is(i int) bool {
	for j := range w.prios {
		if i == j {
			return true
		}
	}
	return false
}

// wake is what Wake must answer.
func (w *second) wake(i int) int64 {
	for _, s := range slices.Backward(w.since()) {
		if w.is(i) && s.what == "sleep" && s.i == i {
			return s.until
		}
	}
	return 0
}

// ended is what Ended must answer.
func (w *second) ended(i int) bool {
	return !w.is(i) || slices.ContainsFunc(w.since(), func(s step) bool { return s.what == "end" && s.i == i })
}

// pick is what Pick must answer: the processes are asked one by one, those of each Prio from the first to the last.
func (w *second) pick(now int64) int {
	prios := slices.Clone(w.prios)
	slices.Sort(prios)
	for _, prio := range prios {
		for i := range w.prios {
			if w.prios[i] == prio && !w.ended(i) && w.wake(i) <= now {
				return i
			}
		}
	}
	return -1
}

// next is what Next must answer.
func (w *second) next(now int64) int64 {
	var times []int64
	for i := range w.prios {
		if at := w.wake(i); at > now && !w.ended(i) {
			times = append(times, at)
		}
	}
	if len(times) == 0 {
		return -1
	}
	slices.Sort(times)
	return times[0]
}

// pair is a table, and what it must be.
type pair struct {
	t *testing.T
	x *proc.Table
	w *second
}

// listed are processes of these Prios. Where they begin is nothing to the table.
func listed(prios ...int) []api.Proc {
	var out []api.Proc
	for i, prio := range prios {
		out = append(out, api.Proc{Entry: []int{-4, 0, 4, 400, math.MaxInt, math.MinInt}[(i+len(prios))%6], Prio: prio})
	}
	return out
}

// begun is a table of such processes, just made.
func begun(t *testing.T, prios ...int) pair {
	t.Helper()
	x := proc.New(listed(prios...))
	if x == nil {
		t.Fatalf("New of Prios %d: nil", prios)
	}
	return pair{t, x, &second{prios: slices.Clone(prios)}}
}

// sleep, end and reset do it to the table, and to what it must be.
func (c pair) sleep(i int, until int64) {
	c.t.Helper()
	if got, want := c.x.Sleep(i, until), c.w.is(i); got != want {
		c.t.Fatalf("%+v: Sleep(%d, %d): %v", *c.w, i, until, got)
	}
	c.w.done = append(c.w.done, step{"sleep", i, until})
}

func (c pair) end(i int) {
	c.t.Helper()
	if got, want := c.x.End(i), c.w.is(i); got != want {
		c.t.Fatalf("%+v: End(%d): %v", *c.w, i, got)
	}
	c.w.done = append(c.w.done, step{what: "end", i: i})
}

func (c pair) reset() {
	c.x.Reset()
	c.w.done = append(c.w.done, step{what: "reset"})
}

// asked: at now all calls that only tell answer what they must; asked twice, the same.
func (c pair) asked(now int64) {
	c.t.Helper()
	for range 2 {
		if got, want := c.x.Pick(now), c.w.pick(now); got != want {
			c.t.Fatalf("%+v: Pick(%d): %d, want %d", *c.w, now, got, want)
		}
		if got, want := c.x.Next(now), c.w.next(now); got != want {
			c.t.Fatalf("%+v: Next(%d): %d, want %d", *c.w, now, got, want)
		}
	}
	c.told()
}

// told: of each process, and of such as there are none, Wake and Ended answer what they must.
func (c pair) told() {
	c.t.Helper()
	for i := -2; i < len(c.w.prios)+3; i++ {
		if got, want := c.x.Wake(i), c.w.wake(i); got != want {
			c.t.Fatalf("%+v: Wake(%d): %d, want %d", *c.w, i, got, want)
		}
		if got, want := c.x.Ended(i), c.w.ended(i); got != want {
			c.t.Fatalf("%+v: Ended(%d): %v, want %v", *c.w, i, got, want)
		}
	}
}

// agrees: it does so at each time at which something may turn, ahead of it and behind it, and at those far away.
func (c pair) agrees() {
	c.t.Helper()
	nows := far()
	for i := range c.w.prios {
		nows = append(nows, about(c.w.wake(i))...)
	}
	for _, now := range nows {
		c.asked(now)
	}
}

// far are times, the least and the greatest among them.
func far() []int64 {
	return []int64{math.MinInt64, math.MinInt64 + 1, math.MinInt32, -2, -1, 0, 1, 2, math.MaxInt32, 1 << 32, math.MaxInt64 - 1, math.MaxInt64}
}

// about are n, and the number ahead of it and the one behind it, so far as there are any.
func about(n int64) []int64 {
	out := []int64{n}
	if n > math.MinInt64 {
		out = append(out, n-1)
	}
	if n < math.MaxInt64 {
		out = append(out, n+1)
	}
	return out
}

// nobody are numbers of no process of a table of so many, such as have the same low bits as one that is among them.
func nobody(many int) []int {
	out := []int{-1, -2, -many, many, many + 1, 2 * many, math.MaxInt, math.MaxInt - 1, math.MinInt, math.MinInt + 1, math.MinInt + 2}
	for _, k := range []int{8, 16, 31, 32, 33, 62} {
		out = append(out, 1<<k, 1<<k+1, 1<<k+2, -1<<k, -1<<k+1, -1<<k+2)
	}
	return out
}

// orders are rows of as many Prios as a table may be of: each order of these, ties of two and of all.
func orders() [][]int {
	return slices.DeleteFunc(sample.Each([]int{math.MinInt, -1, 0, 3, math.MaxInt}, api.MaxProcs), func(l []int) bool { return len(l) == 0 })
}

// dice draws numbers below another one.
func dice(seed uint64) func(below int) int {
	return rand.New(rand.NewPCG(16, seed)).IntN
}
