package reduce

import (
	"horarium/api"
	"horarium/move"
	"horarium/runs"
)

// module is a configuration whose frames are turned about.
type module api.Config

// way is a method of module as a value: a step that is made in a row, of whichever module it is.
type way func(m module, l []api.Run) ([]api.Run, bool)

// ways is all of them, in the order in which they are tried.
func ways() []way {
	// What tidies comes first: it is cheap, and leaves fewer moves to ask for.
	return []way{module.merge, module.draw}
}

// pass is w of a configuration as others have it.
func (w way) pass(c api.Config, l []api.Run) ([]api.Run, bool) {
	return w(module(c), l)
}

// merge is l, tidy; was it not?
func (module) merge(l []api.Run) ([]api.Run, bool) {
	out := runs.Tidy(l)
	return out, !runs.Same(out, l)
}

// draw is what the first move that fits makes of l; l as it is, and false, if none does.
func (m module) draw(l []api.Run) ([]api.Run, bool) {
	x, ok := m.first(l)
	if !ok {
		return copied(l), false
	}
	return move.Do(l, x), true
}

// first is the first move of l that fits.
func (m module) first(l []api.Run) (move.Move, bool) {
	// All as if nobody could tell: Fits asks who can, two by two, where graph.Depends of many partitions could take much more room than the row.
	for _, x := range move.All(l, nil) {
		if move.Fits(api.Config(m), l, x) {
			return x, true
		}
	}
	return move.Move{}, false
}
