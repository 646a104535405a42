package proc

import (
	"container/heap"
)

// line is a heap of places: whose key is the least stands ahead, of these the first process.
type line []place

// place of a process in a line.
type place struct {
	key  int64
	proc int
}

// add puts a process into l by its key.
func (l *line) add(key int64, proc int) {
	heap.Push(l, place{key, proc})
}

// first takes what stands ahead of all else in l; of an empty one none.
func (l *line) first() place {
	if l.Len() == 0 {
		return place{none, none}
	}
	return heap.Pop(l).(place)
}

// Len is for container/heap, as are Less, Swap, Push and Pop.
func (l line) Len() int {
	return len(l)
}

// Less: does the place i stand ahead of the place j?
func (l line) Less(i, j int) bool {
	if l[i].key != l[j].key {
		return l[i].key < l[j].key
	}
	return l[i].proc < l[j].proc
}

// Swap turns two places about.
func (l line) Swap(i, j int) {
	l[i], l[j] = l[j], l[i]
}

// Push puts x behind all others, whatever its key is.
func (l *line) Push(x any) {
	*l = append(*l, x.(place))
}

// Pop takes the one that stands behind all others, whatever its key is.
func (l *line) Pop() any {
	end := len(*l) - 1
	x := (*l)[end]
	*l = (*l)[:end]
	return x
}
