package cursor_test

import (
	"math"
	"runtime"
	"slices"
	"testing"

	"horarium/api"
	"horarium/cursor"
	"horarium/node"
	"horarium/sample"
)

// Short names of what sample makes.
var (
	window, idle, seq, times = sample.Window, sample.Idle, sample.Seq, sample.Times
	chain, wide, row         = sample.Chain, sample.Wide, sample.Row
	roomy, whole             = sample.Roomy[api.Node], sample.Whole[api.Node]
)

// walk is what a cursor must tell: of each tick whose it is, and where its leaf ends.
type walk struct {
	whose []int
	ends  []int64
	at    int64
}

func walkOf(leaves []api.Run) *walk {
	w := &walk{}
	for _, x := range leaves {
		end := int64(len(w.whose)) + x.N
		for range x.N {
			w.whose = append(w.whose, x.Part)
			w.ends = append(w.ends, end)
		}
	}
	return w
}

func of(l []api.Node) *walk {
	return walkOf(sample.Leaves(l))
}

func (w *walk) ended() bool { return w.at == int64(len(w.whose)) }

func (w *walk) next() (api.Run, bool) {
	if w.ended() {
		return api.Run{}, false
	}
	x := api.Run{Part: w.whose[w.at], N: w.ends[w.at] - w.at}
	w.at = w.ends[w.at]
	return x, true
}

func (w *walk) tick() (int, bool) {
	if w.ended() {
		return -1, false
	}
	w.at++
	return w.whose[w.at-1], true
}

// leaf: Next of c is that of w.
func leaf(t *testing.T, c *cursor.Cursor, w *walk) {
	t.Helper()
	want, is := w.next()
	if got, ok := c.Next(); got != want || ok != is || c.At() != w.at {
		t.Fatalf("Next: %v, %v, At %d; want %v, %v, %d", got, ok, c.At(), want, is, w.at)
	}
}

// tick: Tick of c is that of w.
func tick(t *testing.T, c *cursor.Cursor, w *walk) {
	t.Helper()
	want, is := w.tick()
	if got, ok := c.Tick(); got != want || ok != is || c.At() != w.at {
		t.Fatalf("Tick: %d, %v, At %d; want %d, %v, %d", got, ok, c.At(), want, is, w.at)
	}
}

// behind: Next and Tick again and again behind the end.
func behind(t *testing.T, c *cursor.Cursor, w *walk) {
	t.Helper()
	for range 3 {
		leaf(t, c, w)
		tick(t, c, w)
		tick(t, c, w)
	}
}

// reset: c is at the beginning again, and w.
func reset(t *testing.T, c *cursor.Cursor, w *walk) {
	t.Helper()
	c.Reset()
	w.at = 0
	if c.At() != 0 {
		t.Fatalf("At of one just reset: %d", c.At())
	}
}

// each goes through all, by the calls alone that ticks tells: of the step i a Tick, else a Next.
func each(t *testing.T, c *cursor.Cursor, w *walk, ticks func(i int) bool) {
	t.Helper()
	for i := 0; !w.ended(); i++ {
		if ticks(i) {
			tick(t, c, w)
		} else {
			leaf(t, c, w)
		}
	}
	behind(t, c, w)
}

// begun is a cursor of l.
func begun(t *testing.T, l []api.Node) *cursor.Cursor {
	t.Helper()
	c := cursor.New(l)
	if c == nil {
		t.Fatalf("New(%v): nil", l)
	}
	if c.At() != 0 {
		t.Fatalf("At of one just made: %d", c.At())
	}
	return c
}

// agree: a cursor of l goes through these leaves, whatever is called in which order, and Part tells whose each tick is.
func agree(t *testing.T, l []api.Node, w *walk) {
	t.Helper()
	c := begun(t, l)
	reset(t, c, w)
	each(t, c, w, func(int) bool { return false })
	reset(t, c, w)
	each(t, c, w, func(int) bool { return true })
	for _, often := range []int{2, 3, 5} {
		reset(t, c, w)
		each(t, c, w, func(i int) bool { return i%often > 0 })
		reset(t, c, w)
		each(t, c, w, func(i int) bool { return i*i%often == 0 })
	}
	parts(t, l, w)
}

// far are ticks that no table has.
func far() []int64 {
	return []int64{
		-1, -2, -4096, math.MinInt32, -1 << 32, math.MinInt64 + 1, math.MinInt64,
		4096, 4097, math.MaxInt32, 1 << 31, 1 << 32, 1<<32 + 1, 1 << 62, math.MaxInt64 - 1, math.MaxInt64,
	}
}

func parts(t *testing.T, l []api.Node, w *walk) {
	t.Helper()
	for at, want := range w.whose {
		if got := cursor.Part(l, int64(at)); got != want {
			t.Fatalf("Part(%v, %d): %d, want %d", l, at, got, want)
		}
	}
	end := int64(len(w.whose))
	for _, at := range append(far(), end, end+1) {
		if got := cursor.Part(l, at); got != -1 {
			t.Fatalf("Part(%v, %d): %d", l, at, got)
		}
	}
}

// none: there is no cursor of l, and no tick is anybody's.
func none(t *testing.T, what string, l []api.Node) {
	t.Helper()
	if cursor.New(l) != nil {
		t.Errorf("%s: New(%.200v) is not nil", what, l)
	}
	for _, at := range append(far(), 0, 1, 2, 3, 4095) {
		if got := cursor.Part(l, at); got != -1 {
			t.Errorf("%s: Part(%.200v, %d): %d", what, l, at, got)
		}
	}
}

func TestRuns(t *testing.T) {
	c := begun(t, window(2, 5))
	if x, ok := c.Next(); x != (api.Run{Part: 2, N: 5}) || !ok || c.At() != 5 {
		t.Errorf("New(Window 2 of 5): Next: %v, %v, At %d", x, ok, c.At())
	}
	if x, ok := c.Next(); x != (api.Run{}) || ok || c.At() != 5 {
		t.Errorf("Next behind the end: %v, %v, At %d", x, ok, c.At())
	}
	if part, ok := c.Tick(); part != -1 || ok || c.At() != 5 {
		t.Errorf("Tick behind the end: %d, %v, At %d", part, ok, c.At())
	}
	none(t, "nil", nil)
	none(t, "nothing", []api.Node{})
}

func TestOrdinary(t *testing.T) {
	for _, c := range []struct {
		l      []api.Node
		leaves []api.Run
	}{
		{window(3, 5), row(3, 5)},
		{window(0, 1), row(0, 1)},
		{idle(7), row(-1, 7)},
		{seq(window(0, 4)), row(0, 4)},
		{seq(window(0, 4), idle(1), window(1, 2)), row(0, 4, -1, 1, 1, 2)},
		{seq(window(0, 2), window(0, 3), idle(1), idle(2)), row(0, 2, 0, 3, -1, 1, -1, 2)},
		{times(1, window(0, 4)), row(0, 4)},
		{times(3, idle(2)), row(-1, 2, -1, 2, -1, 2)},
		{times(2, times(3, window(1, 5))), row(1, 5, 1, 5, 1, 5, 1, 5, 1, 5, 1, 5)},
		{times(2, seq(window(0, 1), idle(2))), row(0, 1, -1, 2, 0, 1, -1, 2)},
		{seq(seq(seq(idle(1)), window(5, 2)), idle(3)), row(-1, 1, 5, 2, -1, 3)},
		{seq(idle(3), seq(window(5, 2), seq(idle(1)))), row(-1, 3, 5, 2, -1, 1)},
		{seq(window(0, 3), times(2, seq(idle(1), window(5, 2))), idle(4)), row(0, 3, -1, 1, 5, 2, -1, 1, 5, 2, -1, 4)},
		{seq(times(2, window(0, 1)), times(3, window(1, 1))), row(0, 1, 0, 1, 1, 1, 1, 1, 1, 1)},
		{times(2, seq(times(2, window(4, 1)), idle(1))), row(4, 1, 4, 1, -1, 1, 4, 1, 4, 1, -1, 1)},
		{times(2, seq(idle(1), times(2, seq(window(2, 1), window(3, 2))))), row(-1, 1, 2, 1, 3, 2, 2, 1, 3, 2, -1, 1, 2, 1, 3, 2, 2, 1, 3, 2)},
	} {
		if leaves := sample.Leaves(c.l); !slices.Equal(leaves, c.leaves) {
			t.Errorf("the second reckoning of %v: %v", c.l, leaves)
		}
		agree(t, c.l, walkOf(c.leaves))
	}
}

func TestTables(t *testing.T) {
	for _, l := range sample.Tables() {
		if node.Right(l) != api.OK {
			none(t, "drawn", l)
			continue
		}
		agree(t, l, of(l))
	}
}

// TestEach: each row of up to four nodes, right ones and wrong ones.
func TestEach(t *testing.T) {
	some := []api.Node{
		{Kind: api.Window, Part: 5, N: 3}, {Kind: api.Window, N: 1}, {Kind: api.Idle, N: 2}, {Kind: api.Seq, N: 1}, {Kind: api.Seq, N: 2}, {Kind: api.Seq, N: 3}, {Kind: api.Repeat, N: 1}, {Kind: api.Repeat, N: 2},
		{Kind: api.Repeat, N: math.MaxInt64}, {Kind: api.Window, Part: 6, N: 1}, {Kind: api.Repeat, N: 0}, {},
	}
	for _, l := range sample.Each(some, 4) {
		if node.Right(l) != api.OK {
			none(t, "a row", l)
			continue
		}
		agree(t, l, of(l))
	}
}

// TestMixed: Next and Tick in each order that there is.
func TestMixed(t *testing.T) {
	for _, l := range [][]api.Node{
		window(2, 5), idle(6), seq(window(0, 3), idle(4)), times(3, window(1, 3)), times(5, idle(1)),
		seq(window(0, 1), times(2, seq(idle(1), window(5, 2))), idle(3)),
		times(2, seq(times(2, window(0, 1)), seq(idle(2), window(4, 1)))),
		seq(times(2, times(2, window(3, 2))), window(3, 2)),
	} {
		w := of(l)
		for bits := range 1 << len(w.whose) {
			c := begun(t, l)
			reset(t, c, w)
			each(t, c, w, func(i int) bool { return bits>>i&1 == 1 })
		}
	}
}

// TestReset: at the beginning, behind each number of steps, behind the end; once and again.
func TestReset(t *testing.T) {
	for _, l := range [][]api.Node{
		window(2, 5), times(4, idle(2)), seq(seq(window(0, 2)), times(2, seq(idle(3), times(2, window(5, 2)))), idle(4)), chain(5, 2, window(1, 1)),
	} {
		w := of(l)
		for _, often := range []int{1, 2, 3, 100} {
			ticks := func(i int) bool { return i%often > 0 }
			c := begun(t, l)
			for steps := range len(w.whose) + 3 {
				reset(t, c, w)
				reset(t, c, w)
				for i := range steps {
					if ticks(i) {
						tick(t, c, w)
					} else {
						leaf(t, c, w)
					}
				}
				reset(t, c, w)
				each(t, c, w, ticks)
			}
		}
	}
}

func TestMaxNodes(t *testing.T) {
	for _, l := range [][]api.Node{wide(127, idle(1)), seq(wide(63, idle(1)), wide(62, window(1, 2))), seq(wide(63, times(2, window(4, 3)))), chain(1, 2, wide(126, window(3, 2)))} {
		agree(t, l, of(l))
	}
	none(t, "129 nodes", wide(128, idle(1)))
	none(t, "129 nodes, in pieces", seq(wide(63, idle(1)), wide(63, window(1, 2))))
	none(t, "a Seq of 129", wide(129, idle(1)))
	none(t, "many", wide(128, wide(31, idle(1))))
	none(t, "many levels", chain(1<<16, 1, idle(1)))
}

func TestMaxDepth(t *testing.T) {
	left, right := idle(1), window(2, 1)
	for range 15 {
		left, right = seq(left, window(5, 2)), seq(window(5, 2), right)
	}
	for _, l := range [][]api.Node{
		chain(15, 1, window(4, 3)), chain(15, 1, idle(1)), chain(3, 1, chain(12, 2, window(0, 1))), chain(12, 2, chain(3, 1, window(0, 1))),
		left, right, wide(3, chain(14, 1, window(0, 1))), seq(chain(14, 1, window(0, 1)), idle(2), chain(14, 1, window(1, 1))), times(3, seq(idle(1), chain(13, 1, window(1, 2)))),
	} {
		if node.Depth(l) != api.MaxDepth {
			t.Errorf("Depth(%v): %d", l, node.Depth(l))
		}
		agree(t, l, of(l))
	}
	none(t, "depth 17", chain(16, 1, idle(1)))
	none(t, "depth 17, Seqs", seq(left))
	none(t, "depth 17 at the end", seq(idle(1), chain(15, 1, window(0, 1))))
}

func TestMaxFrame(t *testing.T) {
	for _, l := range [][]api.Node{
		window(5, 4096), idle(4096), times(4096, idle(1)), times(4096, window(3, 1)), times(64, window(0, 64)), chain(12, 2, idle(1)),
		times(2048, seq(idle(1), window(1, 1))), seq(times(4095, window(2, 1)), idle(1)), seq(idle(1), times(4095, window(2, 1))), times(16, times(16, seq(window(0, 3), times(13, idle(1))))),
	} {
		w := of(l)
		if len(w.whose) != api.MaxFrame {
			t.Errorf("%d ticks", len(w.whose))
		}
		agree(t, l, w)
	}
	none(t, "4097 ticks", window(5, 4097))
	none(t, "4097 idle ticks", idle(4097))
	none(t, "4097 times", times(4097, idle(1)))
	none(t, "64 times 65", times(64, window(0, 65)))
	none(t, "2 to the 13th", chain(13, 2, idle(1)))
	none(t, "2^62 times", times(1<<62, window(0, 3)))
	none(t, "2^63 - 1 times", times(math.MaxInt64, window(0, 1)))
	none(t, "2^62 times 4", times(1<<62, idle(4)))
	none(t, "2^32 times 2^32", times(1<<32, times(1<<32, idle(1))))
	none(t, "2^63 - 1 ticks", idle(math.MaxInt64))
}

// TestWrong: a node that is none in each place of a table; a table cut off, and gone on.
func TestWrong(t *testing.T) {
	for _, l := range sample.Tables()[:20] {
		if len(l) > 40 {
			continue
		}
		for at := range l {
			none(t, "cut off", l[:at])
			for _, n := range sample.Wrongs() {
				bad := slices.Clone(l)
				bad[at] = n
				none(t, "a node that is none", bad)
			}
		}
		for _, more := range [][]api.Node{idle(1), seq(idle(1)), l, {{}}} {
			none(t, "more than the one table", slices.Concat(l, more))
		}
	}
	none(t, "128 nodes that are none", make([]api.Node, 128))
	none(t, "200 nodes that are none", make([]api.Node, 200))
}

// scribble turns all of l, its room too, into another table.
func scribble(l []api.Node) {
	for i := range whole(l) {
		whole(l)[i] = api.Node{Kind: api.Idle, N: 4}
	}
}

// rooms are what may stand behind a table that is handed in.
func rooms() [][]api.Node {
	return [][]api.Node{idle(1), make([]api.Node, 9), slices.Repeat(seq(idle(1)), 9)}
}

// TestNotChanged: R2, R5: what is handed in stays, and its spare room is neither read nor written.
func TestNotChanged(t *testing.T) {
	for _, l := range sample.Tables()[:60] {
		for _, more := range rooms() {
			in := roomy(l, more)
			was := slices.Clone(whole(in))
			if node.Right(l) == api.OK {
				agree(t, in, of(l))
			}
			for n := range l {
				none(t, "cut off, the rest in its room", in[:n])
			}
			if !slices.Equal(whole(in), was) {
				t.Errorf("%v was changed", was)
			}
		}
	}
}

// TestNotKept: R2: the table turned behind New changes nothing, at the beginning and midway.
func TestNotKept(t *testing.T) {
	for _, l := range sample.Tables()[:60] {
		if node.Right(l) != api.OK {
			continue
		}
		w := of(l)
		for _, more := range rooms() {
			in := roomy(l, more)
			c := begun(t, in)
			scribble(in)
			w.at = 0
			each(t, c, w, func(i int) bool { return i%2 > 0 })
			reset(t, c, w)
			each(t, c, w, func(int) bool { return true })
		}
		in := slices.Clone(l)
		c := begun(t, in)
		w.at = 0
		tick(t, c, w)
		scribble(in)
		each(t, c, w, func(i int) bool { return i%2 > 0 })
		// Another table in the same memory is told anew.
		agree(t, in[:1], of(idle(4)))
	}
}

// TestTwo: cursors of one table, and of others, know nothing of one another.
func TestTwo(t *testing.T) {
	l := seq(window(0, 3), times(2, seq(idle(1), times(2, window(5, 2)))), idle(4))
	other := times(3, seq(window(1, 2), idle(1)))
	a, b, c := begun(t, l), begun(t, l), begun(t, other)
	wa, wb, wc := of(l), of(l), of(other)
	for i := range 40 {
		tick(t, a, wa)
		if i%3 == 0 {
			leaf(t, b, wb)
		}
		if cursor.Part(l, 3) != -1 || cursor.Part(other, 0) != 1 {
			t.Errorf("Part beside cursors, step %d", i)
		}
		leaf(t, c, wc)
		if i%4 == 3 {
			reset(t, c, wc)
		}
	}
}

// TestPlaces: P4.1: a cursor keeps its places alone, not the leaves of 4096 ticks.
func TestPlaces(t *testing.T) {
	l := times(4096, idle(1))
	const often, most = 100, 8192
	var was, is runtime.MemStats
	runtime.ReadMemStats(&was)
	for range often {
		c := cursor.New(l)
		for range api.MaxFrame {
			c.Tick()
		}
		c.Reset()
		c.Next()
	}
	runtime.ReadMemStats(&is)
	if got := (is.TotalAlloc - was.TotalAlloc) / often; got > most {
		t.Errorf("a cursor of 4096 leaves takes %d bytes", got)
	}
}
