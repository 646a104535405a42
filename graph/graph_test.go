package graph_test

import (
	"math"
	"slices"
	"strings"
	"testing"

	"horarium/api"
	"horarium/graph"
)

// TestExamples: the chapter's run and its examples.
func TestExamples(t *testing.T) {
	if !graph.Free(module("-"), -1, 0) {
		t.Error("Free(c, -1, 0) of one partition: false")
	}
	if graph.Sways(module("--", last(0, 1)))[1][0] {
		t.Error("a sampling channel 0 to 1: 1 sways 0")
	}
	if len(graph.Closure(nil)) > 0 || len(graph.Closure([][]bool{})) > 0 {
		t.Error("Closure(nothing) is something")
	}
}

// TestTold: P7.1, P7.2: Depends and Sways of modules of each kind.
func TestTold(t *testing.T) {
	for _, x := range []struct {
		c          api.Config
		dep, sways string
	}{
		{api.Config{}, "", ""},
		{api.Config{Parts: []api.Part{}, Chans: []api.Chan{}}, "", ""},
		{module("", last(0, 0), queue(0, 1), last(-1, -1)), "", ""},
		{module("-"), "1", "1"},
		{module("s"), "1", "1"},
		{module("b", queue(0, 0)), "1", "1"},
		{module("----"), "1... .1.. ..1. ...1", "1... .1.. ..1. ...1"},
		// One channel: who receives sways who sends by a queue alone.
		{module("---", last(0, 1)), "11. 11. ..1", "11. .1. ..1"},
		{module("---", last(1, 0)), "11. 11. ..1", "1.. 11. ..1"},
		{module("---", queue(0, 1)), "11. 11. ..1", "11. 11. ..1"},
		{module("---", queue(1, 0)), "11. 11. ..1", "11. 11. ..1"},
		{module("---", last(2, 0)), "1.1 .1. 1.1", "1.. .1. 1.1"},
		{module("---", queue(0, 2)), "1.1 .1. 1.1", "1.1 .1. 1.1"},
		// Many channels: no step upon step.
		{module("---", last(0, 1), last(1, 2)), "11. 111 .11", "11. .11 ..1"},
		{module("---", queue(0, 1), last(2, 1)), "11. 111 .11", "11. 11. .11"},
		{module("---", last(0, 1), last(1, 2), last(2, 0)), "111 111 111", "11. .11 1.1"},
		{module("---", last(0, 1), last(0, 1), last(0, 1)), "11. 11. ..1", "11. .1. ..1"},
		{module("--", last(0, 1), queue(0, 1)), "11 11", "11 11"},
		{module("--", queue(0, 1), last(0, 1)), "11 11", "11 11"},
		{module("--", last(0, 1), last(1, 0)), "11 11", "11 11"},
		// Ends that are none: the channel is let be, whatever its other end is.
		{module("--", last(-1, 1), last(0, -1), queue(-1, 0), queue(1, -1)), "1. .1", "1. .1"},
		{module("--", last(0, 2), last(2, 1), queue(2, 0), queue(1, 2)), "1. .1", "1. .1"},
		{module("--", queue(0, math.MaxInt), queue(math.MinInt, 1), last(1<<32, 1), last(0, 1<<32+1)), "1. .1", "1. .1"},
		{module("--", queue(-2, -2), queue(2, 2), queue(5, 9), last(-1, 2)), "1. .1", "1. .1"},
		{module("--", queue(-1, 1), last(1, 0), queue(1, 7)), "11 11", "1. 11"},
		{module("--", last(0, 0), queue(1, 1)), "1. .1", "1. .1"},
		// Of those that are Sched each two depend; each of them, and each that is Stop, sways all.
		{module("s---"), "1... .1.. ..1. ...1", "1111 .1.. ..1. ...1"},
		{module("--s"), "1.. .1. ..1", "1.. .1. 111"},
		{module("s-s"), "1.1 .1. 1.1", "111 .1. 111"},
		{module("-ss"), "1.. .11 .11", "1.. 111 111"},
		{module("sss"), "111 111 111", "111 111 111"},
		{module("s-s-s"), "1.1.1 .1... 1.1.1 ...1. 1.1.1", "11111 .1... 11111 ...1. 11111"},
		{module("-t-"), "1.. .1. ..1", "1.. 111 ..1"},
		{module("t-t"), "1.. .1. ..1", "111 .1. 111"},
		{module("t-s"), "1.. .1. ..1", "111 .1. 111"},
		{module("-b"), "1. .1", "1. 11"},
		{module("b-s"), "1.1 .1. 1.1", "111 .1. 111"},
		{module("b-t"), "1.. .1. ..1", "111 .1. 111"},
		{module("s--s", last(1, 2)), "1..1 .11. .11. 1..1", "1111 .11. ..1. 1111"},
		// As many as there may be, and more.
		{module("------", last(5, 0)), "1....1 .1.... ..1... ...1.. ....1. 1....1", "1..... .1.... ..1... ...1.. ....1. 1....1"},
		{module("--------", queue(7, 6)), "1....... .1...... ..1..... ...1.... ....1... .....1.. ......11 ......11", "1....... .1...... ..1..... ...1.... ....1... .....1.. ......11 ......11"},
	} {
		if got := picture(graph.Depends(x.c)); got != x.dep {
			t.Errorf("Depends(%v): %s, want %s", x.c, got, x.dep)
		}
		if got := picture(graph.Sways(x.c)); got != x.sways {
			t.Errorf("Sways(%v): %s, want %s", x.c, got, x.sways)
		}
		agree(t, x.c)
	}
}

// TestSelf: P7.1, P7.2: each depends on itself and sways itself; Depends goes both ways.
func TestSelf(t *testing.T) {
	for _, c := range drawn() {
		dep, direct := graph.Depends(c), graph.Sways(c)
		for a := range dep {
			if !dep[a][a] || !direct[a][a] || !slices.Contains(graph.Reach(c, a), a) {
				t.Errorf("%v: %d and itself: %v, %v", c, a, dep[a][a], direct[a][a])
			}
			for b := range dep {
				if dep[a][b] != dep[b][a] || graph.Free(c, a, b) != graph.Free(c, b, a) {
					t.Errorf("%v: %d depends on %d one way alone", c, a, b)
				}
			}
		}
	}
}

func TestFree(t *testing.T) {
	c := module("---s-s", last(0, 1), queue(2, 1))
	for _, x := range []struct {
		a, b int
		want bool
	}{
		{-1, -1, true}, {-1, 0, true}, {0, -1, true}, {-1, 5, true}, {5, -1, true}, {-1, 3, true},
		{0, 2, true}, {2, 0, true}, {0, 4, true}, {3, 4, true}, {0, 3, true}, {5, 2, true},
		{0, 1, false}, {1, 0, false}, {1, 2, false}, {2, 1, false}, {3, 5, false}, {5, 3, false},
		{0, 0, false}, {3, 3, false}, {4, 4, false}, {5, 5, false},
		{-2, -1, false}, {-1, -2, false}, {-1, 6, false}, {6, -1, false}, {0, 6, false}, {6, 0, false}, {-2, 4, false}, {4, -2, false}, {6, 6, false}, {-2, -2, false}, {6, 7, false}, {-2, 6, false},
	} {
		if got := graph.Free(c, x.a, x.b); got != x.want {
			t.Errorf("Free(%d, %d): %v", x.a, x.b, got)
		}
	}
	agree(t, c)
	if !graph.Free(api.Config{}, -1, -1) || graph.Free(api.Config{}, 0, -1) || graph.Free(api.Config{}, -1, 0) || graph.Free(api.Config{}, 0, 0) || graph.Free(api.Config{}, 0, 1) {
		t.Error("Free of no partition")
	}
	if graph.Free(module("--", last(0, 2), queue(-1, 1)), 0, 2) || graph.Free(module("--", last(0, 2), queue(-1, 1)), 1, -2) || !graph.Free(module("--", last(0, 2), queue(-1, 1)), 0, 1) {
		t.Error("Free with channels that end at none")
	}
	for _, n := range far() {
		for _, x := range []int{-1, 0, 4, 5, 6, n, n + 1, -n} {
			if graph.Free(c, n, x) || graph.Free(c, x, n) {
				t.Errorf("Free of %d, which is none, and %d", n, x)
			}
		}
	}
}

func TestReach(t *testing.T) {
	for _, x := range []struct {
		c    api.Config
		want string // of each partition, rising
	}{
		{module("-"), "0"},
		{module("---"), "0 1 2"},
		{module("---", last(0, 1)), "0 01 2"},
		{module("---", queue(0, 1)), "01 01 2"},
		{module("----", last(0, 1), last(1, 2), last(2, 3)), "0 01 012 0123"},
		{module("----", last(3, 2), last(2, 1), last(1, 0)), "0123 123 23 3"},
		{module("----", last(2, 3), last(0, 1), last(1, 2)), "0 01 012 0123"},
		{module("----", last(0, 1), last(1, 2), last(2, 0)), "012 012 012 3"},
		{module("----", last(0, 1), last(2, 1), last(3, 2)), "0 0123 23 3"},
		{module("-----", last(4, 0), queue(0, 2), last(2, 3)), "024 1 024 0234 4"},
		{module("-----", last(0, 1), last(1, 2), queue(3, 2)), "0 01 0123 0123 4"},
		{module("s---"), "0 01 02 03"},
		{module("---t"), "03 13 23 3"},
		{module("-s-t-"), "013 13 123 13 134"},
		{module("--s-", last(0, 2)), "02 012 02 023"},
		{module("-t--", queue(2, 1), last(3, 2)), "0123 123 123 123"},
		{module("--", queue(0, 2), last(-1, 1), queue(5, 0)), "0 1"},
		// By way of a partition that there is not, nobody sways another one.
		{module("---", last(0, 3), last(3, 1), queue(1, -1), queue(2, -1)), "0 1 2"},
	} {
		for p, want := range strings.Fields(x.want) {
			var got []byte
			for _, q := range graph.Reach(x.c, p) {
				got = append(got, byte('0'+q))
			}
			if string(got) != want {
				t.Errorf("Reach(%v, %d): %s, want %s", x.c, p, got, want)
			}
		}
		for _, p := range append(far(), -1, len(x.c.Parts), len(x.c.Parts)+1) {
			if got := graph.Reach(x.c, p); len(got) > 0 {
				t.Errorf("Reach of %d, which is none: %v", p, got)
			}
		}
		agree(t, x.c)
	}
	for _, p := range append(far(), -1, 0, 1) {
		if len(graph.Reach(api.Config{}, p)) > 0 || len(graph.Reach(module("", queue(0, 0), last(p, p)), p)) > 0 {
			t.Errorf("Reach of %d, where there is no partition", p)
		}
	}
}

// TestFew: each module of few partitions and channels.
func TestFew(t *testing.T) {
	each(t, few(), func(c api.Config) { agree(t, c) })
}

func TestDrawn(t *testing.T) {
	each(t, drawn(), func(c api.Config) { agree(t, c) })
}

// TestElse: what else stands in a module counts for nothing.
func TestElse(t *testing.T) {
	for _, c := range drawn()[:500] {
		other := c
		other.Tables = [][]api.Node{{{Kind: api.Window, Part: 1, N: 3}}, nil}
		other.Parts, other.Chans = slices.Clone(c.Parts), slices.Clone(c.Chans)
		for i := range other.Parts {
			x := &other.Parts[i]
			x.Name, x.Budget, x.Period = "same", -3, math.MaxInt64
			x.Procs, x.Health = []api.Proc{{Entry: i, Prio: -1}}, [5]int{2, 9, -1}
		}
		for i := range other.Chans {
			x := &other.Chans[i]
			x.Cap, x.Max, x.Late = i-5, math.MaxUint32, -1
		}
		if picture(graph.Depends(other)) != picture(graph.Depends(c)) || picture(graph.Sways(other)) != picture(graph.Sways(c)) {
			t.Errorf("%v: Depends %s, Sways %s", other, picture(graph.Depends(other)), picture(graph.Sways(other)))
		}
		agree(t, other)
	}
}
