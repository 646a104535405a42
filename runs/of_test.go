package runs_test

import (
	"math"
	"slices"
	"testing"

	"horarium/api"
	"horarium/node"
	"horarium/runs"
	"horarium/sample"
)

// asked is what Of must answer: of the leaves written out, whose each tick is.
func asked(l []api.Node) ([]api.Run, api.Errno) {
	if why := node.Right(l); why != api.OK {
		return nil, why
	}
	out := tidied(sample.Leaves(l))
	if len(out) > 96 {
		return nil, api.ErrLong
	}
	return out, api.OK
}

// of: Of answers of l what the second reckoning does.
func of(t *testing.T, l []api.Node) {
	t.Helper()
	got, why := runs.Of(l)
	if want, no := asked(l); !slices.Equal(got, want) || why != no {
		t.Errorf("Of(%.300v): %.300v, %d, want %.300v, %d", l, got, int(why), want, int(no))
	}
	if why == api.OK && (!runs.Right(got) || !runs.Same(runs.Tidy(got), got)) {
		t.Errorf("Of(%.300v): not right, or not tidy: %v", l, got)
	}
}

// is: Of of l has this answer and no refusal.
func is(t *testing.T, l []api.Node, want []api.Run) {
	t.Helper()
	if got, why := runs.Of(l); !slices.Equal(got, want) || why != api.OK {
		t.Errorf("Of(%.300v): %.300v, %d, want %.300v", l, got, int(why), want)
	}
	of(t, l)
}

// refused: Of of l is refused, with nothing beside it.
func refused(t *testing.T, what string, l []api.Node, want api.Errno) {
	t.Helper()
	if got, why := runs.Of(l); len(got) > 0 || why != want {
		t.Errorf("%s: %.300v, %d, want %d", what, got, int(why), int(want))
	}
	of(t, l)
}

func TestOf(t *testing.T) {
	for _, c := range []struct {
		l    []api.Node
		want []api.Run
	}{
		{window(3, 5), row(3, 5)},
		{window(0, 1), row(0, 1)},
		{idle(7), row(-1, 7)},
		{seq(window(0, 4)), row(0, 4)},
		{seq(window(0, 4), idle(1), window(1, 2)), row(0, 4, -1, 1, 1, 2)},
		{seq(window(0, 2), window(0, 3), idle(1), idle(2)), row(0, 5, -1, 3)},
		{seq(idle(3), window(2, 1)), row(-1, 3, 2, 1)},
		{times(3, window(2, 5)), row(2, 15)},
		{times(3, idle(2)), row(-1, 6)},
		{times(2, seq(window(0, 1), window(1, 2))), row(0, 1, 1, 2, 0, 1, 1, 2)},
		// A Repeat whose end and beginning are of one Part.
		{times(3, seq(window(0, 1), window(1, 1), window(0, 2))), row(0, 1, 1, 1, 0, 3, 1, 1, 0, 3, 1, 1, 0, 2)},
		{times(2, seq(idle(1), window(1, 1), idle(2))), row(-1, 1, 1, 1, -1, 3, 1, 1, -1, 2)},
		{seq(window(0, 1), times(2, seq(window(0, 1), idle(1))), idle(3), window(0, 1)), row(0, 2, -1, 1, 0, 1, -1, 4, 0, 1)},
		{seq(seq(window(4, 1), window(5, 1)), seq(window(5, 1), window(4, 1)), window(4, 7)), row(4, 1, 5, 2, 4, 8)},
		{seq(times(2, window(0, 1)), times(3, window(0, 1)), times(3, window(1, 1))), row(0, 5, 1, 3)},
		{times(2, times(2, seq(window(0, 1), times(2, seq(window(1, 1), window(0, 1)))))), row(0, 1, 1, 1, 0, 1, 1, 1, 0, 2, 1, 1, 0, 1, 1, 1, 0, 2, 1, 1, 0, 1, 1, 1, 0, 2, 1, 1, 0, 1, 1, 1, 0, 1)},
	} {
		is(t, c.l, c.want)
	}
	for _, l := range sample.Tables() {
		of(t, l)
	}
}

// TestOfEach: each row of up to four nodes, right ones and wrong ones.
func TestOfEach(t *testing.T) {
	some := []api.Node{
		{Kind: api.Window, Part: 5, N: 3}, {Kind: api.Window, N: 1}, {Kind: api.Idle, N: 2}, {Kind: api.Seq, N: 1}, {Kind: api.Seq, N: 2}, {Kind: api.Seq, N: 3}, {Kind: api.Repeat, N: 2}, {Kind: api.Repeat, N: 49},
		{Kind: api.Repeat, N: math.MaxInt64}, {Kind: api.Window, Part: 6, N: 1}, {Kind: api.Repeat, N: 0}, {},
	}
	for _, l := range sample.Each(some, 4) {
		of(t, l)
	}
}

// TestOfMaxRuns: tables with just as many runs as may be, and with one more.
func TestOfMaxRuns(t *testing.T) {
	two := seq(window(0, 1), window(1, 1))
	three := seq(window(0, 1), idle(1), window(0, 2))
	is(t, times(48, two), alternate(96, 1))
	is(t, seq(times(47, two), window(0, 1)), alternate(95, 1))
	is(t, seq(times(48, two), window(1, 2)), append(alternate(95, 1), row(1, 3)...))
	is(t, seq(window(0, 3), times(48, two)), append(row(0, 4), alternate(96, 1)[1:]...))
	refused(t, "97 runs", seq(times(48, two), window(0, 1)), api.ErrLong)
	refused(t, "97 runs, an idle one ahead", seq(idle(1), times(48, two)), api.ErrLong)
	refused(t, "97 runs, an idle one behind", seq(times(48, two), idle(1)), api.ErrLong)
	refused(t, "98 runs", times(49, two), api.ErrLong)
	refused(t, "4096 runs", times(2048, two), api.ErrLong)
	// Three leaves a time, two runs a time, but for the last.
	if got, why := runs.Of(times(47, three)); len(got) != 95 || why != api.OK {
		t.Errorf("47 times three: %d, %d", len(got), int(why))
	}
	if got, why := runs.Of(seq(idle(1), times(47, three))); len(got) != 96 || why != api.OK {
		t.Errorf("47 times three behind an idle one: %d, %d", len(got), int(why))
	}
	refused(t, "48 times three", times(48, three), api.ErrLong)
	of(t, times(47, three))
	of(t, seq(idle(1), times(47, three)))
	windows := make([][]api.Node, 97)
	for i := range windows {
		windows[i] = window(i%5, int64(1+i%3))
	}
	if got, why := runs.Of(seq(windows[:96]...)); len(got) != 96 || why != api.OK {
		t.Errorf("96 windows: %d, %d", len(got), int(why))
	}
	of(t, seq(windows[:96]...))
	refused(t, "97 windows", seq(windows...), api.ErrLong)
}

// TestOfLeaves: many leaves that are few runs.
func TestOfLeaves(t *testing.T) {
	is(t, times(4096, window(0, 1)), row(0, 4096))
	is(t, times(4096, idle(1)), row(-1, 4096))
	is(t, chain(12, 2, window(5, 1)), row(5, 4096))
	is(t, wide(127, window(3, 2)), row(3, 254))
	is(t, wide(127, idle(1)), row(-1, 127))
	is(t, seq(times(97, window(0, 1)), times(97, idle(1)), times(97, window(1, 1))), row(0, 97, -1, 97, 1, 97))
	is(t, seq(idle(1), times(4095, window(2, 1))), row(-1, 1, 2, 4095))
	is(t, times(48, seq(times(20, window(0, 1)), times(10, times(3, window(1, 1))))), slices.Repeat(row(0, 20, 1, 30), 48))
}

// TestOfRefused: what node.Right refuses, each by its own number, and ahead of too many runs.
func TestOfRefused(t *testing.T) {
	two := seq(window(0, 1), window(1, 1))
	refused(t, "nothing", nil, api.ErrForm)
	refused(t, "nothing", []api.Node{}, api.ErrForm)
	refused(t, "129 nodes", wide(128, idle(1)), api.ErrLong)
	refused(t, "many nodes", wide(128, wide(31, idle(1))), api.ErrLong)
	refused(t, "many levels", chain(1<<16, 1, idle(1)), api.ErrLong)
	refused(t, "depth 17", chain(16, 1, idle(1)), api.ErrDeep)
	refused(t, "4097 ticks", window(5, 4097), api.ErrTable)
	refused(t, "4097 times", times(4097, idle(1)), api.ErrTable)
	refused(t, "2^62 times", times(1<<62, window(0, 3)), api.ErrTable)
	refused(t, "2^63 - 1 ticks", idle(math.MaxInt64), api.ErrTable)
	refused(t, "too many runs, no form", append(times(49, two), idle(1)...), api.ErrForm)
	refused(t, "too many runs, depth 17", chain(14, 1, times(49, two)), api.ErrDeep)
	refused(t, "too many runs, too many ticks", times(2049, two), api.ErrTable)
	refused(t, "128 nodes that are none", make([]api.Node, 128), api.ErrForm)
	refused(t, "200 nodes that are none", make([]api.Node, 200), api.ErrLong)
	for _, l := range sample.Tables()[:20] {
		if len(l) > 40 {
			continue
		}
		for at := range l {
			refused(t, "cut off", l[:at], api.ErrForm)
			for _, n := range sample.Wrongs() {
				bad := slices.Clone(l)
				bad[at] = n
				refused(t, "a node that is none", bad, api.ErrForm)
			}
		}
		refused(t, "more than the one table", slices.Concat(l, l), api.ErrForm)
	}
}

// TestOfNotChanged: R2, R5: what is handed in stays, and its spare room is neither read nor written.
func TestOfNotChanged(t *testing.T) {
	for _, l := range sample.Tables()[:60] {
		for _, more := range [][]api.Node{idle(1), make([]api.Node, 9), slices.Repeat(seq(idle(1)), 9)} {
			for n := range len(l) + 1 {
				in := sample.Roomy(l[:n], slices.Concat(l[n:], more))
				was := slices.Clone(sample.Whole(in))
				of(t, in)
				if !slices.Equal(sample.Whole(in), was) {
					t.Errorf("%v was changed", was)
				}
			}
		}
	}
}

// TestOfNotKept: R2: an answer of Of shares no memory with another one, and nothing is kept of what was handed in.
func TestOfNotKept(t *testing.T) {
	for _, l := range sample.Tables()[:60] {
		in := sample.Roomy(l, make([]api.Node, 9))
		want, _ := asked(l)
		first, _ := runs.Of(in)
		second, _ := runs.Of(in)
		scribble(first)
		if third, _ := runs.Of(in); !slices.Equal(second, want) || !slices.Equal(third, want) {
			t.Errorf("two answers share memory: Of(%v)", l)
		}
		for i := range sample.Whole(in) {
			sample.Whole(in)[i] = api.Node{Kind: api.Idle, N: 4}
		}
		if !slices.Equal(second, want) {
			t.Errorf("Of(%v) hangs on its argument still", l)
		}
		// Another table in the same memory is told anew.
		of(t, in)
		of(t, in[:1])
	}
}
