package fold

import (
	"horarium/api"
	"horarium/node"
)

// best is the fold of items that saves most: from which place on, how many items, how many times; 0, 0, 0, if none saves any.
func best(items [][]api.Node) (at, p, n int) {
	most, all := 0, size(items)
	// The row stays there once, with a node and more for each of its q items: beyond some q no fold saves as much as most.
	for q := 1; 2*q <= len(items) && all-q > most; q++ {
		for place := q - 1; place+q < len(items); {
			// Of a stretch its beginning alone is asked: there are the most times, and the least place.
			from, to := stretch(items, q, place)
			often := (to-from)/q + 1
			saved := saves(items[from:from+q], often)
			if saved > most || saved == most && from < at {
				most, at, p, n = saved, from, q, often
			}
			// No stretch goes through to: the next one that is long enough goes through the place q behind, or lies behind that.
			place = to + q
		}
	}
	return at, p, n
}

// stretch is the places that lie about place, or end ahead of it, at each of which the item is the same as the one p behind: the first of them, and the one behind the last.
func stretch(items [][]api.Node, p, place int) (int, int) {
	from, to := place, place
	for from > 0 && node.Same(items[from-1], items[from-1+p]) {
		from--
	}
	for to+p < len(items) && node.Same(items[to], items[to+p]) {
		to++
	}
	return from, to
}

// saves is how many nodes fewer there are, if row, which comes n times, stands once below a Repeat.
func saves(row [][]api.Node, n int) int {
	// Most rows come once: to sum each of them would take long.
	if n < 2 {
		return 0
	}
	saved := size(row)*(n-1) - 1
	if len(row) > 1 {
		// For the Seq.
		saved--
	}
	return saved
}

// size is how many nodes items have together.
func size(items [][]api.Node) int {
	sum := 0
	for _, x := range items {
		sum += len(x)
	}
	return sum
}
