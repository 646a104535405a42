// Package sample: tables written short, right ones and wrong ones, for the tests of the other packages.
package sample

import (
	"math"
	"slices"

	"horarium/api"
)

// Window is so many ticks of a partition.
func Window(part int, n int64) []api.Node {
	return []api.Node{{Kind: api.Window, Part: part, N: n}}
}

// Idle is so many ticks of none.
func Idle(n int64) []api.Node {
	return []api.Node{{Kind: api.Idle, N: n}}
}

// Seq is the tables l one behind the other.
func Seq(l ...[]api.Node) []api.Node {
	return append([]api.Node{{Kind: api.Seq, N: int64(len(l))}}, slices.Concat(l...)...)
}

// Times is l so many times.
func Times(n int64, l []api.Node) []api.Node {
	return append([]api.Node{{Kind: api.Repeat, N: n}}, l...)
}

// Chain is l below so many Repeats of n times.
func Chain(how int, n int64, l []api.Node) []api.Node {
	return slices.Concat(slices.Repeat([]api.Node{{Kind: api.Repeat, N: n}}, how), l)
}

// Wide is a Seq of so many tables l.
func Wide(how int, l []api.Node) []api.Node {
	return Seq(slices.Repeat([][]api.Node{l}, how)...)
}

// Drawn is a table of some depth, the same for the same x, which goes on from draw to draw.
func Drawn(x *uint64, deep int) []api.Node {
	kinds := 6
	if deep == 0 {
		kinds = 2
	}
	switch pick(x, kinds) {
	case 0:
		return Window(pick(x, 6), int64(1+pick(x, 9)))
	case 1:
		return Idle(int64(1 + pick(x, 9)))
	case 2:
		return Times(int64(1+pick(x, 4)), Drawn(x, deep-1))
	}
	kids := make([][]api.Node, 1+pick(x, 4))
	for i := range kids {
		kids[i] = Drawn(x, deep-1)
	}
	return Seq(kids...)
}

// pick is a number below n; x goes on.
func pick(x *uint64, n int) int {
	*x = *x*6364136223846793005 + 1442695040888963407
	return int(*x >> 33 % uint64(n))
}

// Tables: many that may be, and some that are too long, or have too many ticks.
func Tables() [][]api.Node {
	out := [][]api.Node{
		Window(0, 1), Idle(1), Times(2, Window(0, 3)), Seq(Idle(2)),
		Seq(Window(0, 3), Times(2, Seq(Idle(1), Window(5, 2))), Idle(4)),
	}
	x := uint64(1)
	for i := range 300 {
		out = append(out, Drawn(&x, 1+i%6))
	}
	return out
}

// Wrongs: nodes that are none.
func Wrongs() []api.Node {
	var out []api.Node
	for _, kind := range []int{api.Window, api.Idle, api.Seq, api.Repeat} {
		for _, n := range []int64{0, -1, -128, math.MinInt64} {
			out = append(out, api.Node{Kind: kind, N: n})
		}
		for _, part := range []int{-1, 6, 7, math.MaxInt, math.MinInt} {
			out = append(out, api.Node{Kind: kind, Part: part, N: 1})
		}
		if kind != api.Window {
			out = append(out, api.Node{Kind: kind, Part: 1, N: 1}, api.Node{Kind: kind, Part: 5, N: 1})
		}
	}
	for _, kind := range []int{0, -1, 5, 6, 128, math.MaxInt, math.MinInt} {
		out = append(out, api.Node{Kind: kind, N: 1}, api.Node{Kind: kind})
	}
	for _, n := range []int64{129, 1 << 32, 1<<32 + 1, math.MaxInt64} {
		out = append(out, api.Node{Kind: api.Seq, N: n})
	}
	return out
}

// Roomy is l with room behind its length, filled with more.
func Roomy(l, more []api.Node) []api.Node {
	return slices.Concat(l, more)[:len(l)]
}

// Whole is l with its room.
func Whole(l []api.Node) []api.Node {
	return l[:cap(l)]
}
