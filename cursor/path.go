package cursor

import (
	"horarium/api"
)

// level is a node of which children are still gone through.
type level struct {
	left int64 // how often a child comes yet, the one at hand counted
	back int   // of a Repeat: the place of its child; of a Seq 0, where no child is
}

// path is the levels above a leaf, the outermost first: a stack of its own, no deeper than node.Right lets a table be.
type path struct {
	levels [api.MaxDepth]level
	deep   int
}

func (p *path) push(l level) {
	p.levels[p.deep] = l
	p.deep++
}

// behind is the place that comes in time behind the leaf at place at; the levels that end with the leaf are left.
func (p *path) behind(at int) int {
	for p.deep > 0 {
		top := &p.levels[p.deep-1]
		top.left--
		if top.left > 0 {
			if top.back > 0 {
				return top.back
			}
			break
		}
		p.deep--
	}
	return at + 1
}
