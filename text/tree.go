package text

import (
	"horarium/api"
)

// tree is a table that is gone through.
type tree struct {
	in    *reader
	whose func() int // goes through what tells a Window's partition
	out   []api.Node
}

// table goes through a table; whose goes through what tells a Window's partition.
func (r *reader) table(whose func() int) []api.Node {
	t := &tree{in: r, whose: whose}
	t.node(1)
	return t.out
}

// node goes through a node with all below it, at a level from 1 on.
func (t *tree) node(level int) {
	// Asked ahead of each node, so that no text leads far down.
	if level > api.MaxDepth || len(t.out) == api.MaxNodes {
		t.in.fail()
		return
	}
	switch t.in.next() {
	case 'w':
		part := t.whose()
		t.in.must(':')
		t.put(api.Node{Kind: api.Window, Part: part, N: t.in.number(most)})
	case 'i':
		t.put(api.Node{Kind: api.Idle, N: t.in.number(most)})
	case 's':
		t.seq(level)
	case 'r':
		t.put(api.Node{Kind: api.Repeat, N: t.in.number(most)})
		t.in.must('(')
		t.node(level + 1)
		t.in.must(')')
	default:
		t.in.fail()
	}
}

// seq goes through what stands behind the s of a Seq.
func (t *tree) seq(level int) {
	at := len(t.out)
	t.put(api.Node{Kind: api.Seq})
	t.in.must('(')
	for more := true; more; more = t.in.take(',') {
		t.node(level + 1)
		t.out[at].N++
	}
	t.in.must(')')
}

// put puts n behind the nodes that were gone through.
func (t *tree) put(n api.Node) {
	t.out = append(t.out, n)
}
