package sample

import (
	"slices"

	"horarium/api"
)

// Places is where w has ticks of part, rising.
func Places(w []int, part int) []int {
	var out []int
	for at, x := range w {
		if x == part {
			out = append(out, at)
		}
	}
	return out
}

// Late is how far, at most, a tick of from is from the next one of to in a frame of the ticks w: from each tick on the next one is looked for in two frames, one behind the other. Another way than the packages', which count by runs, so that a slip in one is not in both.
func Late(w []int, from, to int) int64 {
	next := Places(slices.Concat(w, w), to)
	most := 0
	for _, at := range Places(w, from) {
		i, _ := slices.BinarySearch(next, at+1)
		if i == len(next) {
			return -1
		}
		most = max(most, next[i]-at)
	}
	return int64(most)
}

// Budget is the fewest ticks of part in a period of w: the ticks are cut into periods, and in each part's are counted.
func Budget(w []int, part int, period int64) int64 {
	if period < 1 || len(w) == 0 || int64(len(w))%period != 0 {
		return -1
	}
	var often []int
	for piece := range slices.Chunk(w, int(period)) {
		often = append(often, len(Places(piece, part)))
	}
	return int64(slices.Min(often))
}

// Holds: is a frame of the ticks w as c asks?
func Holds(c api.Config, w []int) api.Errno {
	for _, x := range c.Chans {
		if n := Late(w, x.From, x.To); x.Late > 0 && (n < 0 || n > x.Late) {
			return api.ErrLate
		}
	}
	for p, x := range c.Parts {
		if x.Budget > 0 && Budget(w, p, x.Period) < x.Budget {
			return api.ErrShort
		}
	}
	return api.OK
}
