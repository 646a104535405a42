package proc_test

import (
	"math"
	"slices"
	"testing"

	"horarium/api"
	"horarium/proc"
	"horarium/sample"
)

// TestRuns: the chapter's run.
func TestRuns(t *testing.T) {
	x := proc.New([]api.Proc{{Prio: 5}, {Prio: 3}})
	if x == nil {
		t.Fatal("New of two: nil")
	}
	if got := x.Pick(0); got != 1 {
		t.Errorf("New of two, Prio 5, 3: Pick(0): %d", got)
	}
}

// TestExamples: the chapter's examples.
func TestExamples(t *testing.T) {
	x := proc.New(listed(5, 3))
	for i := range 2 {
		if !x.End(i) {
			t.Errorf("End(%d): false", i)
		}
	}
	for _, now := range far() {
		if got := x.Pick(now); got != -1 {
			t.Errorf("End of all: Pick(%d): %d", now, got)
		}
	}
	if proc.New(nil) != nil {
		t.Error("New(nothing) is not nil")
	}
}

// TestNewNone: there is no table of none, of one process more than there may be, of many; R4: nil and an empty list are the same; R5: what stands behind a list's length is not counted.
func TestNewNone(t *testing.T) {
	some := listed(1, 2, 3)
	for _, l := range [][]api.Proc{nil, {}, make([]api.Proc, 0, 2), some[:0], sample.Roomy(nil, some), some[1:1:2], some[3:]} {
		if proc.New(l) != nil {
			t.Errorf("New of none, with room for %d, is not nil", cap(l))
		}
	}
	for _, n := range []int{api.MaxProcs + 1, api.MaxProcs + 2, 2 * api.MaxProcs, 255, 256, 257, 256 + api.MaxProcs, 1 << 16, 1<<16 + 1, 1<<16 + 2, 1 << 20} {
		if proc.New(make([]api.Proc, n)) != nil {
			t.Errorf("New of %d is not nil", n)
		}
	}
}

// TestNew: a table of each number of processes that there may be, all of them asleep until 0, none of them ended; whatever stands behind the list's length.
func TestNew(t *testing.T) {
	for _, l := range orders() {
		for _, more := range [][]int{nil, {-7}, {math.MinInt, math.MinInt, math.MinInt, math.MinInt}} {
			in := sample.Roomy(listed(l...), listed(more...))
			x := proc.New(in)
			if x == nil {
				t.Fatalf("New of Prios %d: nil", l)
			}
			pair{t, x, &second{prios: l}}.agrees()
		}
	}
}

// TestNewEntry: where a process begins is nothing to the table.
func TestNewEntry(t *testing.T) {
	entries := []int{math.MinInt, -1, 0, 1, 4, api.MaxProg, math.MaxInt}
	for _, a := range entries {
		for _, b := range entries {
			x := proc.New([]api.Proc{{Entry: a, Prio: 1}, {Entry: b, Prio: 0}, {Entry: a, Prio: 0}})
			if x == nil {
				t.Fatalf("New of processes that begin at %d, %d: nil", a, b)
			}
			pair{t, x, &second{prios: []int{1, 0, 0}}}.agrees()
		}
	}
}

// TestNewRoom: R2: what is handed in stays, its spare room too, whatever is done to the table.
func TestNewRoom(t *testing.T) {
	for _, l := range orders() {
		in := sample.Roomy(listed(l...), listed(9, -9, 0))
		was := slices.Clone(sample.Whole(in))
		c := pair{t, proc.New(in), &second{prios: l}}
		for i := range l {
			c.sleep(i, int64(i)-1)
			c.agrees()
			c.end(i)
		}
		c.agrees()
		c.reset()
		c.agrees()
		if !slices.Equal(sample.Whole(in), was) {
			t.Fatalf("New changed %+v to %+v", was, sample.Whole(in))
		}
	}
}

// TestNewKept: R2: what is handed in is not kept: a list that is changed behind the call changes nothing, nor what is appended to it.
func TestNewKept(t *testing.T) {
	for _, l := range orders() {
		in := sample.Roomy(listed(l...), listed(9, -9, 0))
		c := pair{t, proc.New(in), &second{prios: l}}
		for _, prio := range []int{math.MinInt, 7, math.MaxInt} {
			for i := range sample.Whole(in) {
				in[:cap(in)][i] = api.Proc{Entry: prio, Prio: prio - i}
				c.agrees()
			}
			_ = append(in, api.Proc{Prio: math.MinInt})
			c.agrees()
			c.reset()
			c.agrees()
		}
	}
}
