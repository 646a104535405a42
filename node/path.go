package node

import (
	"horarium/api"
)

// open is a node of which children are still to come.
type open struct {
	left  int64 // how many of them
	times int64 // how often the table goes through each, held
}

// path is the open nodes above a place of a table, the outermost first: a stack of its own, for how deep a row goes is not asked ahead of going through it.
type path []open

// times is how often the table goes through the node that is next.
func (p path) times() int64 {
	if len(p) == 0 {
		return 1
	}
	return p[len(p)-1].times
}

// behind is the path of the node behind n, whose own path is p; p itself is used up.
func (p path) behind(n api.Node) path {
	switch n.Kind {
	case api.Seq:
		return append(p, open{n.N, p.times()})
	case api.Repeat:
		return append(p, open{1, held(n.N, p.times())})
	}
	for len(p) > 0 {
		last := len(p) - 1
		p[last].left--
		if p[last].left > 0 {
			break
		}
		p = p[:last]
	}
	return p
}
