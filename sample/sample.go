// Package sample: tables, rows of runs and modules written short, right ones and wrong ones, for the tests of the other packages.
package sample

import (
	"math"
	"slices"
	"strconv"

	"horarium/api"
)

// Window is so many ticks of a partition.
func Window(part int, n int64) []api.Node {
	return []api.Node{{Kind: api.Window, Part: part, N: n}}
}

// Idle is so many ticks of none.
func Idle(n int64) []api.Node {
	return []api.Node{{Kind: api.Idle, N: n}}
}

// Seq is the tables l one behind the other.
func Seq(l ...[]api.Node) []api.Node {
	return append([]api.Node{{Kind: api.Seq, N: int64(len(l))}}, slices.Concat(l...)...)
}

// Times is l so many times.
func Times(n int64, l []api.Node) []api.Node {
	return append([]api.Node{{Kind: api.Repeat, N: n}}, l...)
}

// Chain is l below so many Repeats of n times.
func Chain(how int, n int64, l []api.Node) []api.Node {
	return slices.Concat(slices.Repeat([]api.Node{{Kind: api.Repeat, N: n}}, how), l)
}

// Wide is a Seq of so many tables l.
func Wide(how int, l []api.Node) []api.Node {
	return Seq(slices.Repeat([][]api.Node{l}, how)...)
}

// Drawn is a table of some depth, the same for the same x, which goes on from draw to draw.
func Drawn(x *uint64, deep int) []api.Node {
	kinds := 6
	if deep == 0 {
		kinds = 2
	}
	switch pick(x, kinds) {
	case 0:
		return Window(pick(x, 6), int64(1+pick(x, 9)))
	case 1:
		return Idle(int64(1 + pick(x, 9)))
	case 2:
		return Times(int64(1+pick(x, 4)), Drawn(x, deep-1))
	}
	kids := make([][]api.Node, 1+pick(x, 4))
	for i := range kids {
		kids[i] = Drawn(x, deep-1)
	}
	return Seq(kids...)
}

// pick is a number below n; x goes on.
func pick(x *uint64, n int) int {
	*x = *x*6364136223846793005 + 1442695040888963407
	return int(*x >> 33 % uint64(n))
}

// Tables: many that may be, and some that are too long, or have too many ticks.
func Tables() [][]api.Node {
	out := [][]api.Node{
		Window(0, 1), Idle(1), Times(2, Window(0, 3)), Seq(Idle(2)),
		Seq(Window(0, 3), Times(2, Seq(Idle(1), Window(5, 2))), Idle(4)),
	}
	x := uint64(1)
	for i := range 300 {
		out = append(out, Drawn(&x, 1+i%6))
	}
	return out
}

// Wrongs: nodes that are none.
func Wrongs() []api.Node {
	var out []api.Node
	for _, kind := range []int{api.Window, api.Idle, api.Seq, api.Repeat} {
		for _, n := range []int64{0, -1, -128, math.MinInt64} {
			out = append(out, api.Node{Kind: kind, N: n})
		}
		for _, part := range []int{-1, 6, 7, math.MaxInt, math.MinInt} {
			out = append(out, api.Node{Kind: kind, Part: part, N: 1})
		}
		if kind != api.Window {
			out = append(out, api.Node{Kind: kind, Part: 1, N: 1}, api.Node{Kind: kind, Part: 5, N: 1})
		}
	}
	for _, kind := range []int{0, -1, 5, 6, 128, math.MaxInt, math.MinInt} {
		out = append(out, api.Node{Kind: kind, N: 1}, api.Node{Kind: kind})
	}
	for _, n := range []int64{129, 1 << 32, 1<<32 + 1, math.MaxInt64} {
		out = append(out, api.Node{Kind: api.Seq, N: n})
	}
	return out
}

// Leaves is what time goes through in l, a table that may be, all written out by calls that call themselves: another way than the packages', so that a slip in one is not in both.
func Leaves(l []api.Node) []api.Run {
	out, _ := spread(l, 0)
	return out
}

// spread is the leaves of the node at place at, and the place behind it.
func spread(l []api.Node, at int) ([]api.Run, int) {
	n := l[at]
	at++
	kids, again := 1, 1
	switch n.Kind {
	case api.Window:
		return []api.Run{{Part: n.Part, N: n.N}}, at
	case api.Idle:
		return []api.Run{{Part: -1, N: n.N}}, at
	case api.Seq:
		kids = int(n.N)
	case api.Repeat:
		again = int(n.N)
	}
	var out, kid []api.Run
	for range kids {
		kid, at = spread(l, at)
		out = append(out, kid...)
	}
	return slices.Repeat(out, again), at
}

// Row is runs, from pairs: whose, how many ticks.
func Row(pairs ...int64) []api.Run {
	var out []api.Run
	for i := 0; i < len(pairs); i += 2 {
		out = append(out, api.Run{Part: int(pairs[i]), N: pairs[i+1]})
	}
	return out
}

// Spelt is runs of one tick each, from letters: a is partition 0's, b that of 1, and so on; a point is idle.
func Spelt(letters string) []api.Run {
	var out []api.Run
	for _, x := range []byte(letters) {
		part := int(x) - 'a'
		if x == '.' {
			part = -1
		}
		out = append(out, api.Run{Part: part, N: 1})
	}
	return out
}

// Short is l as a text, or its beginning, if it is long.
func Short(l []api.Run) string {
	var out []byte
	for at, x := range l {
		if at == 50 {
			return string(append(out, "and more"...))
		}
		out = append(out, '(')
		out = strconv.AppendInt(out, int64(x.Part), 10)
		out = append(out, ", "...)
		out = strconv.AppendInt(out, x.N, 10)
		out = append(out, ") "...)
	}
	return string(out)
}

// Ticks is whose each tick of l is, one by one.
func Ticks(l []api.Run) []int {
	var out []int
	for _, x := range l {
		for range x.N {
			out = append(out, x.Part)
		}
	}
	return out
}

// Rows: many rows of runs, tidy ones and others, with runs of no ticks among them.
func Rows() [][]api.Run {
	var out [][]api.Run
	x := uint64(1)
	for i := range 300 {
		l := make([]api.Run, i%40)
		for at := range l {
			l[at] = api.Run{Part: pick(&x, 2+i%6) - 1, N: int64(pick(&x, 7) - i%3)}
		}
		out = append(out, l)
	}
	return out
}

// Frames are rows as long as a frame may be: by ticks, by runs, by both.
func Frames() [][]api.Run {
	out := [][]api.Run{
		Row(0, 4096), Row(-1, 4096), Row(0, 1, -1, 4095), Row(-1, 4095, 0, 1), Row(0, 2048, 1, 2048), Row(0, 1, 1, 4094, 0, 1), Row(1, 2000, 0, 1, 2, 95, 1, 2000),
		slices.Repeat(Row(0, 1, 1, 1), 48), slices.Repeat(Row(0, 1, 1, 2, -1, 3), 32), slices.Repeat(Row(0, 42, 1, 42), 48), slices.Repeat(Row(3, 1), 96), slices.Repeat(Row(3, 42), 96),
		append(slices.Repeat(Row(0, 43, 1, 43), 47), Row(0, 43, 5, 11)...), append(Row(5, 11), slices.Repeat(Row(2, 43), 95)...),
	}
	for i := range int64(4) {
		var l []api.Run
		for at := range int64(96) {
			l = append(l, api.Run{Part: int((at*at+i)%7) - 1, N: 1 + (at*(i+3)+at/7)%(30*(i%2+1))})
		}
		// Up to 4096 ticks.
		l[95].N += 4096 - int64(len(Ticks(l)))
		out = append(out, l)
	}
	return out
}

// Odd are numbers that few rows have to do with.
func Odd() []int64 {
	return []int64{math.MinInt64, math.MinInt64 + 1, -1 << 32, 1 - 1<<32, math.MinInt32, -4096, -6, -3, -2, 1 << 13, 1 << 31, 1 << 32, 1<<32 + 1, 1 << 62, math.MaxInt64 - 1, math.MaxInt64}
}

// Each row of up to so many of some.
func Each[T any](some []T, most int) [][]T {
	out := [][]T{nil}
	rows := out
	for range most {
		var longer [][]T
		for _, l := range rows {
			for _, x := range some {
				longer = append(longer, append(slices.Clone(l), x))
			}
		}
		rows = longer
		out = append(out, rows...)
	}
	return out
}

// Roomy is l with room behind its length, filled with more.
func Roomy[T any](l, more []T) []T {
	return slices.Concat(l, more)[:len(l)]
}

// Whole is l with its room.
func Whole[T any](l []T) []T {
	return l[:cap(l)]
}
