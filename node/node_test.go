package node_test

import (
	"math"
	"math/big"
	"slices"
	"testing"

	"horarium/api"
	"horarium/node"
	"horarium/sample"
)

// Short names of what sample makes.
var (
	window, idle, seq, times = sample.Window, sample.Idle, sample.Seq, sample.Times
	chain, wide              = sample.Chain, sample.Wide
	tables, wrongs           = sample.Tables, sample.Wrongs
	roomy, whole             = sample.Roomy[api.Node], sample.Whole[api.Node]
)

// tree is a node with all below it, found by calls that call themselves and numbers of any size: another way than the package's, so that a slip in one is not in both.
type tree struct {
	size, depth int
	ticks       *big.Int
	kids        []int
}

// grown is the tree at place at of l; false, if none is there.
func grown(l []api.Node, at int) (tree, bool) {
	if at < 0 || at >= len(l) || l[at].N <= 0 {
		return tree{}, false
	}
	n := l[at]
	switch {
	case n.Kind == api.Window && 0 <= n.Part && n.Part <= 5, n.Kind == api.Idle && n.Part == 0:
		return tree{1, 1, big.NewInt(n.N), nil}, true
	case n.Kind == api.Repeat && n.Part == 0:
		t, ok := with(l, at, 1)
		t.ticks.Mul(t.ticks, big.NewInt(n.N))
		return t, ok
	case n.Kind == api.Seq && n.Part == 0 && n.N <= 128:
		return with(l, at, int(n.N))
	}
	return tree{}, false
}

// with is the tree at place at with its so many children, each once.
func with(l []api.Node, at, how int) (tree, bool) {
	t := tree{size: 1, ticks: new(big.Int)}
	for range how {
		kid, ok := grown(l, at+t.size)
		if !ok {
			return tree{ticks: new(big.Int)}, false
		}
		t.kids = append(t.kids, at+t.size)
		t.size += kid.size
		t.depth = max(t.depth, kid.depth)
		t.ticks.Add(t.ticks, kid.ticks)
	}
	t.depth++
	return t, true
}

// asked is what Right must answer of l.
func asked(l []api.Node) api.Errno {
	t, ok := grown(l, 0)
	switch {
	case len(l) > 128:
		return api.ErrLong
	case !ok || t.size != len(l):
		return api.ErrForm
	case t.depth > 16:
		return api.ErrDeep
	case t.ticks.Cmp(big.NewInt(4096)) > 0:
		return api.ErrTable
	}
	return api.OK
}

// agree: every call answers of l, and of each of its places and those beside it, what the second reckoning does.
func agree(t *testing.T, l []api.Node) {
	t.Helper()
	if got, want := node.Right(l), asked(l); got != want {
		t.Errorf("Right(%.200v): %d, want %d", l, int(got), int(want))
	}
	all, ok := grown(l, 0)
	ok = ok && all.size == len(l)
	depth, length := 0, int64(0)
	if ok {
		depth = all.depth
	}
	fits := ok && all.ticks.Cmp(big.NewInt(4096)) <= 0
	if fits {
		length = all.ticks.Int64()
	}
	if got := node.Depth(l); got != depth {
		t.Errorf("Depth(%.200v): %d, want %d", l, got, depth)
	}
	if got, is := node.Length(l); got != length || is != fits {
		t.Errorf("Length(%.200v): %d, %v, want %d, %v", l, got, is, length, fits)
	}
	for at := -2; at < len(l)+3; at++ {
		place(t, l, at)
	}
}

func place(t *testing.T, l []api.Node, at int) {
	t.Helper()
	want, ok := grown(l, at)
	if !ok {
		want = tree{}
	}
	if got := node.Size(l, at); got != want.size {
		t.Errorf("Size(%.200v, %d): %d, want %d", l, at, got, want.size)
	}
	if got := node.Kids(l, at); !slices.Equal(got, want.kids) {
		t.Errorf("Kids(%.200v, %d): %v, want %v", l, at, got, want.kids)
	}
}

func TestRuns(t *testing.T) {
	if n, ok := node.Length(times(2, window(0, 3))); n != 6 || !ok {
		t.Errorf("Length(Repeat 2, Window 0 of 3): %d, %v", n, ok)
	}
	for _, l := range [][]api.Node{nil, {}} {
		if got := node.Right(l); got != api.ErrForm {
			t.Errorf("Right(nothing): %d", int(got))
		}
		if n, ok := node.Length(l); n != 0 || ok || node.Depth(l) != 0 || node.Size(l, 0) != 0 || len(node.Kids(l, 0)) > 0 {
			t.Errorf("of nothing: %d, %v, %d, %d, %v", n, ok, node.Depth(l), node.Size(l, 0), node.Kids(l, 0))
		}
	}
	if got := node.Right(times(1<<62, window(0, 3))); got != api.ErrTable {
		t.Errorf("Right of a Repeat of 2^62 times: %d", int(got))
	}
}

func TestOrdinary(t *testing.T) {
	for _, c := range []struct {
		l      []api.Node
		length int64
		depth  int
		kids   []int
	}{
		{window(3, 5), 5, 1, nil},
		{idle(7), 7, 1, nil},
		{seq(window(0, 4)), 4, 2, []int{1}},
		{seq(window(0, 4), idle(1), window(1, 2)), 7, 2, []int{1, 2, 3}},
		{times(1, window(0, 4)), 4, 2, []int{1}},
		{times(3, times(2, window(1, 5))), 30, 3, []int{1}},
		{times(3, seq(window(0, 1), idle(2))), 9, 3, []int{1}},
		{seq(window(0, 3), times(2, seq(idle(1), window(5, 2))), idle(4)), 13, 4, []int{1, 2, 6}},
		{seq(times(2, window(0, 1)), times(3, window(1, 1)), seq(idle(1), idle(1))), 7, 3, []int{1, 3, 5}},
		{seq(seq(seq(idle(1)), idle(2)), idle(3)), 6, 4, []int{1, 5}},
		{times(2, seq(times(3, idle(1)), window(0, 1), times(4, seq(idle(1), window(1, 2))))), 32, 5, []int{1}},
	} {
		n, ok := node.Length(c.l)
		if n != c.length || !ok || node.Depth(c.l) != c.depth || node.Right(c.l) != api.OK {
			t.Errorf("%v: %d, %v, %d, %d", c.l, n, ok, node.Depth(c.l), int(node.Right(c.l)))
		}
		if got := node.Kids(c.l, 0); !slices.Equal(got, c.kids) || node.Size(c.l, 0) != len(c.l) {
			t.Errorf("%v: Kids %v, Size %d", c.l, got, node.Size(c.l, 0))
		}
		agree(t, c.l)
	}
	for _, l := range tables() {
		agree(t, l)
	}
}

// TestEach: each row of up to four nodes, right ones and wrong ones.
func TestEach(t *testing.T) {
	some := []api.Node{
		{Kind: api.Window, Part: 5, N: 3}, {Kind: api.Idle, N: 2}, {Kind: api.Seq, N: 1}, {Kind: api.Seq, N: 2}, {Kind: api.Seq, N: 3}, {Kind: api.Repeat, N: 2}, {Kind: api.Repeat, N: math.MaxInt64},
		{Kind: api.Window, Part: 6, N: 1}, {Kind: api.Repeat, N: 0}, {Kind: api.Seq, N: 0}, {},
	}
	for _, l := range sample.Each(some, 4) {
		agree(t, l)
	}
}

// right: Right, Length, Depth of l are these.
func right(t *testing.T, what string, l []api.Node, why api.Errno, length int64, depth int) {
	t.Helper()
	n, ok := node.Length(l)
	if got := node.Right(l); got != why || n != length || ok != (length > 0) || node.Depth(l) != depth {
		t.Errorf("%s: Right %d, Length %d, %v, Depth %d", what, int(got), n, ok, node.Depth(l))
	}
	agree(t, l)
}

func TestMaxNodes(t *testing.T) {
	right(t, "128 nodes", wide(127, idle(1)), api.OK, 127, 2)
	right(t, "129 nodes", wide(128, idle(1)), api.ErrLong, 128, 2)
	right(t, "128 nodes, in pieces", seq(wide(63, idle(1)), wide(62, window(1, 2))), api.OK, 187, 3)
	right(t, "129 nodes, in pieces", seq(wide(63, idle(1)), wide(63, window(1, 2))), api.ErrLong, 189, 3)
	right(t, "a Seq of 129", wide(129, idle(1)), api.ErrLong, 0, 0)
	right(t, "a Seq of 129, cut off", wide(129, idle(1))[:128], api.ErrForm, 0, 0)
	right(t, "129 nodes that are none", make([]api.Node, 129), api.ErrLong, 0, 0)
	right(t, "128 nodes that are none", make([]api.Node, 128), api.ErrForm, 0, 0)
	right(t, "many", wide(128, wide(31, idle(1))), api.ErrLong, 3968, 3)
	right(t, "too many, too deep, too many ticks", chain(200, 2, idle(1)), api.ErrLong, 0, 201)
}

func TestMaxDepth(t *testing.T) {
	right(t, "depth 16", chain(15, 1, idle(1)), api.OK, 1, 16)
	right(t, "depth 17", chain(16, 1, idle(1)), api.ErrDeep, 1, 17)
	right(t, "depth 16 at the end", seq(idle(1), idle(2), chain(14, 1, window(0, 1))), api.OK, 4, 16)
	right(t, "depth 17 at the end", seq(idle(1), idle(2), chain(15, 1, window(0, 1))), api.ErrDeep, 4, 17)
	right(t, "depth 17 ahead", seq(chain(15, 1, window(0, 1)), idle(1), idle(2)), api.ErrDeep, 4, 17)
	right(t, "depth 16 thrice", wide(3, chain(14, 1, window(0, 1))), api.OK, 3, 16)
	steps := idle(1)
	for range 15 {
		steps = seq(steps, idle(1))
	}
	right(t, "Seqs, depth 16", steps, api.OK, 16, 16)
	right(t, "Seqs, depth 17", seq(steps), api.ErrDeep, 16, 17)
	right(t, "depth 17, too many ticks", chain(16, 1, idle(4097)), api.ErrDeep, 0, 17)
	right(t, "depth 17, cut off", chain(16, 1, idle(1))[:16], api.ErrForm, 0, 0)
}

func TestMaxFrame(t *testing.T) {
	right(t, "4096 ticks", window(5, 4096), api.OK, 4096, 1)
	right(t, "4097 ticks", window(5, 4097), api.ErrTable, 0, 1)
	right(t, "4096 idle ticks", idle(4096), api.OK, 4096, 1)
	right(t, "4097 idle ticks", idle(4097), api.ErrTable, 0, 1)
	right(t, "4096 times", times(4096, idle(1)), api.OK, 4096, 2)
	right(t, "4097 times", times(4097, idle(1)), api.ErrTable, 0, 2)
	right(t, "64 times 64", times(64, window(0, 64)), api.OK, 4096, 2)
	right(t, "64 times 65", times(64, window(0, 65)), api.ErrTable, 0, 2)
	right(t, "3 times 1365", times(3, window(0, 1365)), api.OK, 4095, 2)
	right(t, "3 times 1366", times(3, window(0, 1366)), api.ErrTable, 0, 2)
	right(t, "4000 and 96", seq(idle(4000), window(0, 96)), api.OK, 4096, 2)
	right(t, "4000 and 97", seq(idle(4000), window(0, 97)), api.ErrTable, 0, 2)
	right(t, "2 times 4 and 2044", times(2, seq(idle(4), window(1, 2044))), api.OK, 4096, 3)
	right(t, "2 times 4 and 2045", times(2, seq(idle(4), window(1, 2045))), api.ErrTable, 0, 3)
	right(t, "2 to the 12th", chain(12, 2, idle(1)), api.OK, 4096, 13)
	right(t, "2 to the 13th", chain(13, 2, idle(1)), api.ErrTable, 0, 14)
	right(t, "a Repeat, and 1 behind it", seq(times(4095, idle(1)), idle(1)), api.OK, 4096, 3)
	right(t, "a Repeat, and 2 behind it", seq(times(4095, idle(1)), idle(2)), api.ErrTable, 0, 3)
	right(t, "a Repeat that ends ahead of the rest", seq(times(2, times(3, idle(1))), idle(5), times(7, idle(11))), api.OK, 88, 4)
}

// TestRunsOver: ticks of any size; sums and products that are small or 0 when they run over.
func TestRunsOver(t *testing.T) {
	most := int64(math.MaxInt64)
	right(t, "2^63 - 1 ticks", idle(most), api.ErrTable, 0, 1)
	right(t, "2^63 - 1 times 1", times(most, idle(1)), api.ErrTable, 0, 2)
	right(t, "1 times 2^63 - 1", times(1, idle(most)), api.ErrTable, 0, 2)
	right(t, "twice 2^63 - 1, and 3", seq(idle(most), idle(most), idle(3)), api.ErrTable, 0, 2)
	right(t, "twice 2^62, four times", times(4, seq(idle(1<<62), idle(1<<62))), api.ErrTable, 0, 3)
	right(t, "2^62 times 4", times(1<<62, idle(4)), api.ErrTable, 0, 2)
	right(t, "4 times 2^62", times(4, idle(1<<62)), api.ErrTable, 0, 2)
	right(t, "2^32 times 2^32", times(1<<32, times(1<<32, idle(1))), api.ErrTable, 0, 3)
	right(t, "2^16, four times", chain(4, 1<<16, window(0, 1)), api.ErrTable, 0, 5)
	right(t, "(2^63 - 1) squared", times(most, times(most, idle(1))), api.ErrTable, 0, 3)
	right(t, "(2^63 - 1) cubed", times(most, times(most, idle(most))), api.ErrTable, 0, 3)
	right(t, "2^64 and 2, a third of it 3 times", times(3, idle(0x5555555555555556)), api.ErrTable, 0, 2)
	right(t, "2^64 and 2, 3 times a third of it", times(0x5555555555555556, idle(3)), api.ErrTable, 0, 2)
	right(t, "2^64 and 2, by Repeats alone", times(0x5555555555555556, times(3, idle(1))), api.ErrTable, 0, 3)
	right(t, "2^62 times 4, and 1 behind it", seq(times(1<<62, idle(4)), idle(1)), api.ErrTable, 0, 3)
	right(t, "2^64 in 128 pieces", wide(128, times(1<<30, idle(1<<27))), api.ErrLong, 0, 3)
	right(t, "a great Repeat behind", seq(idle(1), times(most, idle(1))), api.ErrTable, 0, 3)
}

func TestParts(t *testing.T) {
	for _, part := range []int{0, 1, 2, 3, 4, 5} {
		right(t, "a partition", window(part, 1), api.OK, 1, 1)
	}
	for _, part := range []int{-1, 6, 7, 256, math.MaxInt, math.MinInt} {
		right(t, "no partition", window(part, 1), api.ErrForm, 0, 0)
		right(t, "no partition below", seq(idle(1), times(2, window(part, 1))), api.ErrForm, 0, 0)
	}
}

// TestWrong: a node that is none, in each place of a table.
func TestWrong(t *testing.T) {
	for _, l := range tables()[:40] {
		if len(l) > 40 {
			continue
		}
		for at := range l {
			for _, n := range wrongs() {
				bad := slices.Clone(l)
				bad[at] = n
				if got := node.Size(bad, at); got != 0 || len(node.Kids(bad, at)) > 0 {
					t.Errorf("of %v: Size %d, Kids %v", n, got, node.Kids(bad, at))
				}
				if got := node.Right(bad); got != api.ErrForm {
					t.Errorf("with %v at %d: Right %d", n, at, int(got))
				}
				agree(t, bad)
			}
		}
	}
}

// TestCut: each beginning and each end of a table, and what is more than the one table.
func TestCut(t *testing.T) {
	for _, l := range tables() {
		if len(l) > 128 {
			continue
		}
		for n := range l {
			if got := node.Right(l[:n]); got != api.ErrForm || node.Depth(l[:n]) != 0 {
				t.Errorf("Right of %d nodes of %v: %d", n, l, int(got))
			}
			agree(t, l[:n])
			agree(t, slices.Clip(slices.Clone(l[:n])))
			agree(t, l[n:])
		}
		for _, more := range [][]api.Node{idle(1), seq(idle(1)), l, {{}}} {
			both := slices.Concat(l, more)
			if len(both) <= 128 && node.Right(both) != api.ErrForm || node.Size(both, 0) != len(l) || node.Depth(both) != 0 {
				t.Errorf("more than the one table: %v", both)
			}
			agree(t, both)
		}
	}
}

// TestOrder: a fault of each kind, and each one that is named behind it.
func TestOrder(t *testing.T) {
	right(t, "long, and no form", append(wide(128, idle(1)), idle(1)...), api.ErrLong, 0, 0)
	right(t, "no form, deep, ticks", append(chain(16, 1, idle(4097)), idle(1)...), api.ErrForm, 0, 0)
	right(t, "no form, ticks", append(idle(4097), idle(1)...), api.ErrForm, 0, 0)
	right(t, "deep, ticks", times(4097, chain(16, 1, idle(1))), api.ErrDeep, 0, 18)
	right(t, "ticks", times(4097, chain(14, 1, idle(1))), api.ErrTable, 0, 16)
}

func TestPlaces(t *testing.T) {
	l := seq(window(0, 3), times(2, seq(idle(1), window(5, 2))), idle(4))
	for _, at := range []int{-1, -7, 7, 8, 1 << 32, 1<<32 + 1, math.MaxInt, math.MaxInt - 1, math.MinInt, math.MinInt + 1} {
		if got := node.Size(l, at); got != 0 || len(node.Kids(l, at)) > 0 {
			t.Errorf("place %d: Size %d, Kids %v", at, got, node.Kids(l, at))
		}
		if got := node.Size(nil, at); got != 0 || len(node.Kids(nil, at)) > 0 {
			t.Errorf("place %d of nothing: Size %d", at, got)
		}
	}
	for at, want := range []struct {
		size int
		kids []int
	}{{7, []int{1, 2, 6}}, {1, nil}, {4, []int{3}}, {3, []int{4, 5}}, {1, nil}, {1, nil}, {1, nil}} {
		if got := node.Kids(l, at); !slices.Equal(got, want.kids) || node.Size(l, at) != want.size {
			t.Errorf("place %d: Size %d, Kids %v", at, node.Size(l, at), got)
		}
	}
}

// TestGreat: rows as deep as the limits say, and of a great many nodes.
func TestGreat(t *testing.T) {
	deep := chain(1<<16, 1, idle(3))
	if n, ok := node.Length(deep); n != 3 || !ok || node.Depth(deep) != 1<<16+1 || node.Size(deep, 0) != len(deep) || node.Right(deep) != api.ErrLong {
		t.Errorf("2^16 levels: %d, %v, %d, %d", n, ok, node.Depth(deep), node.Size(deep, 0))
	}
	if got := node.Kids(deep, 1<<15); !slices.Equal(got, []int{1<<15 + 1}) {
		t.Errorf("Kids in the midst: %v", got)
	}
	if n, ok := node.Length(deep[:1<<16]); n != 0 || ok || node.Depth(deep[:1<<16]) != 0 {
		t.Errorf("2^16 levels, cut off: %d, %v", n, ok)
	}
	broad := wide(128, wide(128, wide(128, idle(1))))
	if n, ok := node.Length(broad); n != 0 || ok || node.Depth(broad) != 4 || node.Size(broad, 0) != len(broad) || node.Right(broad) != api.ErrLong {
		t.Errorf("2^21 ticks: %d, %v, %d, %d", n, ok, node.Depth(broad), node.Size(broad, 0))
	}
	for i, at := range node.Kids(broad, 0) {
		if at != 1+i*(1+128*129) {
			t.Errorf("child %d: at %d", i, at)
		}
	}
	last := len(broad) - 1
	broad[last].N = 0
	if node.Size(broad, 0) != 0 || node.Depth(broad) != 0 || len(node.Kids(broad, 0)) > 0 || node.Size(broad, 1) != 1+128*129 {
		t.Errorf("the last one of 2^21 nodes is none: %d", node.Size(broad, 0))
	}
}

func TestSame(t *testing.T) {
	for _, l := range append(tables()[:60], wrongs(), make([]api.Node, 200)) {
		if !node.Same(l, l) || !node.Same(l, slices.Clip(slices.Clone(l))) {
			t.Errorf("Same of a row and itself: %v", l)
		}
		for n := range l {
			if node.Same(l, l[:n]) || node.Same(l[:n], l) {
				t.Errorf("Same of a beginning of %d: %v", n, l)
			}
		}
		for at := range l {
			for _, n := range []api.Node{{Kind: l[at].Kind ^ 1, Part: l[at].Part, N: l[at].N}, {Kind: l[at].Kind, Part: l[at].Part ^ 1, N: l[at].N}, {Kind: l[at].Kind, Part: l[at].Part, N: l[at].N ^ 1<<40}} {
				other := slices.Clone(l)
				other[at] = n
				if node.Same(l, other) || node.Same(other, l) {
					t.Errorf("Same with %v at %d: %v", n, at, l)
				}
			}
		}
	}
	if !node.Same(nil, nil) || !node.Same(nil, []api.Node{}) || !node.Same([]api.Node{}, nil) {
		t.Error("Same of nothing and nothing: false")
	}
	if node.Same(nil, idle(1)) || node.Same(idle(1), nil) {
		t.Error("Same of nothing and a table: true")
	}
	// As many ticks of each, and yet another row.
	if node.Same(idle(6), times(2, idle(3))) || node.Same(seq(idle(1), idle(2)), seq(idle(2), idle(1))) || node.Same(seq(idle(1)), idle(1)) {
		t.Error("Same of other rows with the same ticks: true")
	}
}

// TestNotChanged: R2, R5: what is handed in stays, and its spare room is neither read nor written.
func TestNotChanged(t *testing.T) {
	for _, l := range tables()[:60] {
		for _, more := range [][]api.Node{idle(1), make([]api.Node, 9), slices.Repeat(seq(idle(1)), 9)} {
			for n := range len(l) + 1 {
				in := roomy(l[:n], slices.Concat(l[n:], more))
				was := slices.Clone(whole(in))
				agree(t, in)
				if !node.Same(in, l[:n]) || !node.Same(l[:n], in) {
					t.Errorf("Same hangs on the room behind %v", in)
				}
				if !slices.Equal(whole(in), was) {
					t.Errorf("%v was changed", was)
				}
			}
		}
	}
}

// TestNotKept: R2: an answer of Kids shares no memory with another one, and nothing is kept of what was handed in.
func TestNotKept(t *testing.T) {
	for _, l := range tables()[:60] {
		in := roomy(l, make([]api.Node, 9))
		for at := range l {
			first, second := node.Kids(in, at), node.Kids(in, at)
			want := slices.Clone(second)
			room := first[:cap(first)]
			for i := range room {
				room[i] = -9
			}
			if !slices.Equal(second, want) || !slices.Equal(node.Kids(in, at), want) {
				t.Errorf("two answers share memory: Kids(%v, %d)", l, at)
			}
		}
		kids := node.Kids(in, 0)
		want := slices.Clone(kids)
		for i := range whole(in) {
			whole(in)[i] = api.Node{Kind: api.Idle, N: 4}
		}
		if !slices.Equal(kids, want) {
			t.Errorf("Kids(%v, 0) hangs on its argument still", l)
		}
		// Another table in the same memory is judged anew.
		agree(t, in)
		in[0] = api.Node{Kind: api.Repeat, N: 4}
		agree(t, in)
	}
}
