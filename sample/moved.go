package sample

import (
	"slices"

	"horarium/api"
)

// Ties are two by two who depends on whom, each both ways.
type Ties map[[2]int]int

// tie: a and b depend.
func (w Ties) tie(a, b int) {
	w[[2]int{a, b}], w[[2]int{b, a}] = 1, 1
}

// Tied: do a and b depend?
func (w Ties) Tied(a, b int) bool {
	return w[[2]int{a, b}] > 0
}

// TiesBy is what dep says either way.
func TiesBy(dep [][]bool) Ties {
	w := Ties{}
	for a, r := range dep {
		for b, is := range r {
			if is {
				w.tie(a, b)
			}
		}
	}
	return w
}

// TiesOf is what the partitions of c can tell of each other, by its channels and by who may change the table.
func TiesOf(c api.Config) Ties {
	w := Ties{}
	for _, x := range c.Chans {
		if min(x.From, x.To) >= 0 && max(x.From, x.To) < len(c.Parts) {
			w.tie(x.From, x.To)
		}
	}
	for a, x := range c.Parts {
		for b, y := range c.Parts {
			if x.Sched && y.Sched {
				w.tie(a, b)
			}
		}
	}
	return w
}

// May: may the runs of l at i and j be brought together? Who has runs between is gathered, and none of these may be the one at the ends, or have to do with it.
func (w Ties) May(l []api.Run, i, j int) bool {
	if i < 0 || j <= i || j >= len(l) || l[i].Part != l[j].Part {
		return false
	}
	mine := l[i].Part
	between := map[int]int{}
	for _, x := range l[i+1 : j] {
		between[x.Part]++
	}
	for p := range between {
		if p == mine || p != -1 && mine != -1 && w.Tied(p, mine) {
			return false
		}
	}
	return true
}

// Moved is l, of not too many ticks, with its runs at i and j together at one of these: the ticks are written out run by run, those of the one that goes are put to the place, and all are read as runs again. Another way than the packages', which count by runs, so that a slip in one is not in both.
func Moved(l []api.Run, i, j int, right bool) []api.Run {
	if i < 0 || j <= i || j >= len(l) {
		return l
	}
	pieces := make([][]int, len(l))
	for at := range l {
		pieces[at] = Ticks(l[at : at+1])
	}
	at, gone := i, j
	if right {
		at, gone = gone, at
	}
	pieces[at] = append(pieces[at], slices.Repeat([]int{l[at].Part}, len(pieces[gone]))...)
	pieces[gone] = nil
	return Together(slices.Concat(pieces...))
}

// Together is a run for each stretch of ticks of one.
func Together(w []int) []api.Run {
	var out []api.Run
	for at, p := range w {
		if at == 0 || w[at-1] != p {
			out = append(out, api.Run{Part: p})
		}
		out[len(out)-1].N++
	}
	return out
}

// Tossed is so many runs, not tidy, of n partitions and idle ones, by a draw of numbers below another one.
func Tossed(draw func(below int) int, long, n int) []api.Run {
	l := make([]api.Run, long)
	for at := range l {
		l[at] = api.Run{Part: draw(n+1) - 1, N: int64(1 + draw(3))}
	}
	return l
}
