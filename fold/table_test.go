package fold_test

import (
	"slices"
	"testing"

	"horarium/api"
	"horarium/fold"
	"horarium/node"
	"horarium/runs"
	"horarium/sample"
)

// The leaves of a letter each.
var a, b, c, d, dot = window(0, 1), window(1, 1), window(2, 1), window(3, 1), idle(1)

// is: Table of l is want.
func is(t *testing.T, l []api.Run, want []api.Node) {
	t.Helper()
	if got := fold.Table(l); !slices.Equal(got, want) {
		t.Errorf("Table(%.300v): %.300v, want %.300v", l, got, want)
	}
	agree(t, l)
}

func TestTable(t *testing.T) {
	for s, want := range map[string][]api.Node{
		// Nothing is folded.
		"a": a, ".": dot, "aa": seq(a, a), "..": seq(dot, dot), "ab": seq(a, b), "abab": seq(a, b, a, b), ".a.a": seq(dot, a, dot, a), "abcab": seq(a, b, c, a, b), "abacaba": seq(a, b, a, c, a, b, a),
		// One row so many times.
		"aaa": times(3, a), "....": times(4, dot), "ababab": times(3, seq(a, b)), ".a.a.a": times(3, seq(dot, a)), "abcabc": times(2, seq(a, b, c)), "aabaab": times(2, seq(a, a, b)),
		// Others ahead and behind.
		"baaa": seq(b, times(3, a)), "aaab": seq(times(3, a), b), "ac...": seq(a, c, times(3, dot)), "abcabcd": seq(times(2, seq(a, b, c)), d), "dabcabc": seq(d, times(2, seq(a, b, c))), "cabababd": seq(c, times(3, seq(a, b)), d), "abcabcab": seq(times(2, seq(a, b, c)), a, b),
		// Several folds.
		"aaabbb": seq(times(3, a), times(3, b)), "abababcccdcdcd": seq(times(3, seq(a, b)), c, c, times(3, seq(c, d))), "aaacbbbb": seq(times(3, a), c, times(4, b)), "ababababcabababab": seq(times(4, seq(a, b)), c, times(4, seq(a, b))), "abcabcdabcabcdabcabc": seq(times(2, seq(a, b, c, a, b, c, d)), times(2, seq(a, b, c))),
		// Rows that hold rows that come again themselves: what saves most is folded first.
		"aaabaaab": times(2, seq(a, a, a, b)), "aaabaaabaaa": seq(times(2, seq(a, a, a, b)), times(3, a)), "abababcabababc": times(2, seq(a, b, a, b, a, b, c)), "abcabcabcdabcabcabcd": times(2, seq(a, b, c, a, b, c, a, b, c, d)), "aaacaaaacaaaa": seq(times(2, seq(a, a, a, c, a)), times(3, a)), "ababababcababacabababab": seq(times(4, seq(a, b)), times(2, seq(c, a, b, a, b, a)), b, a, b),
		// A fold takes away what another one would need.
		"aaabcabcabc": seq(a, a, times(3, seq(a, b, c))), "abababcabcabc": seq(a, b, a, b, times(3, seq(a, b, c))), "ababdababdcabab": seq(times(2, seq(a, b, a, b, d)), c, a, b, a, b),
		// Folded items alike, and yet not side by side.
		"aaacaaa": seq(times(3, a), c, times(3, a)), "aaacaaadaaacaaa": seq(times(3, a), c, times(3, a), d, times(3, a), c, times(3, a)),
		// Folded items unlike in one node, with the same behind each: how often, whose, which kind, further below.
		"aaacaaaac": seq(times(3, a), c, times(4, a), c), "aaacbbbc": seq(times(3, a), c, times(3, b), c), "...caaac": seq(times(3, dot), c, times(3, a), c), "abababdacacacd": seq(times(3, seq(a, b)), d, times(3, seq(a, c)), d),
	} {
		is(t, letters(s), want)
	}
}

// TestTicks: runs of the same partition with other ticks are other runs, also below what is folded.
func TestTicks(t *testing.T) {
	is(t, row(0, 5, 0, 5, 0, 6), seq(window(0, 5), window(0, 5), window(0, 6)))
	is(t, row(0, 5, 0, 5, 0, 5), times(3, window(0, 5)))
	is(t, row(0, 1, 1, 2, 0, 1, 1, 2, 0, 1, 1, 2), times(3, seq(window(0, 1), window(1, 2))))
	is(t, row(0, 1, 1, 2, 0, 1, 1, 2, 0, 1, 1, 3), seq(window(0, 1), window(1, 2), window(0, 1), window(1, 2), window(0, 1), window(1, 3)))
	is(t, row(0, 2, 0, 2, 0, 2, 1, 1, 0, 3, 0, 3, 0, 3, 1, 1), seq(times(3, window(0, 2)), b, times(3, window(0, 3)), b))
	is(t, row(-1, 3, 0, 3, -1, 3), seq(idle(3), window(0, 3), idle(3)))
	is(t, row(-1, 7, -1, 7, -1, 7, 0, 7), seq(times(3, idle(7)), window(0, 7)))
	// No ticks are put together: a row that is not tidy stays run by run.
	is(t, row(0, 1, 0, 3), seq(window(0, 1), window(0, 3)))
	is(t, row(0, 1, 0, 2, 0, 1, 0, 2, 0, 1, 0, 2), times(3, seq(window(0, 1), window(0, 2))))
}

// TestLimits: rows with as many runs, and as many ticks, as may be.
func TestLimits(t *testing.T) {
	is(t, row(0, 4096), window(0, 4096))
	is(t, row(-1, 4096), idle(4096))
	is(t, row(5, 4000, -1, 96), seq(window(5, 4000), idle(96)))
	is(t, slices.Repeat(row(2, 42), 96), times(96, window(2, 42)))
	is(t, slices.Repeat(letters("ab"), 48), times(48, seq(a, b)))
	is(t, slices.Repeat(row(4, 42, -1, 43), 48), times(48, seq(window(4, 42), idle(43))))
	is(t, slices.Repeat(letters("ab."), 32), times(32, seq(a, b, dot)))
	is(t, append(slices.Repeat(letters("ab"), 47), letters("ac")...), seq(times(47, seq(a, b)), a, c))
	is(t, append(letters("ca"), slices.Repeat(letters("ba"), 47)...), seq(c, times(47, seq(a, b)), a))
	is(t, slices.Concat(unlike(48), unlike(48)), times(2, fold.Plain(unlike(48))))
	is(t, unlike(96), fold.Plain(unlike(96)))
	is(t, slices.Concat(unlike(93), letters("...")), slices.Concat([]api.Node{{Kind: api.Seq, N: 94}}, fold.Plain(unlike(93))[1:], times(3, dot)))
	is(t, slices.Repeat(letters("aaab"), 24), times(24, seq(a, a, a, b)))
	// Thirty-two folds, each of three runs.
	var many []api.Run
	var folds [][]api.Node
	for _, x := range unlike(32) {
		many = append(many, x, x, x)
		folds = append(folds, times(3, window(x.Part, x.N)))
	}
	is(t, many, seq(folds...))
}

// rows: rows that tables lead to, many of which hold rows that come again, tidy and as they are.
func rows() [][]api.Run {
	var out [][]api.Run
	x := uint64(6)
	for i := range 2000 {
		l := sample.Drawn(&x, 4+i%5)
		if node.Right(l) == api.OK {
			out = append(out, sample.Leaves(l), runs.Tidy(sample.Leaves(l)))
		}
	}
	return slices.DeleteFunc(out, func(l []api.Run) bool { return len(l) > 120 })
}

// TestRows: drawn rows, most of which may be.
func TestRows(t *testing.T) {
	for _, l := range append(sample.Rows(), rows()...) {
		agree(t, l)
	}
}

// TestBack: P6.3: of a row that is tidy, the tables' runs are the row; of one that is not, its Tidy.
func TestBack(t *testing.T) {
	for s, want := range map[string][]api.Run{
		"a": row(0, 1), "ab": row(0, 1, 1, 1), "ababab": letters("ababab"), "abcabcd": letters("abcabcd"), ".a.a.a": letters(".a.a.a"), "aaa": row(0, 3), "...": row(-1, 3), "aaabaaab": row(0, 3, 1, 1, 0, 3, 1, 1), "abbabb": row(0, 1, 1, 2, 0, 1, 1, 2), "abaaba": row(0, 1, 1, 1, 0, 2, 1, 1, 0, 1),
	} {
		for _, l := range [][]api.Node{fold.Table(letters(s)), fold.Plain(letters(s))} {
			if got, why := runs.Of(l); why != api.OK || !runs.Same(got, want) {
				t.Errorf("of %q: %v, whose runs are %v, %d", s, l, got, int(why))
			}
		}
	}
}

// TestNotChanged: R2, R5: what is handed in stays, and its spare room is neither read nor written.
func TestNotChanged(t *testing.T) {
	for _, l := range append(rows()[:60], letters("abababab"), letters("abcabcab"), letters("aaaa"), row(0, 0, -9, 1, 0, 0, -9, 1)) {
		for _, more := range [][]api.Run{letters("a"), l, make([]api.Run, 9), row(-1, 2, 0, 1, 1, 1, 2, 5000)} {
			for n := range min(len(l), 12) + 1 {
				in := sample.Roomy(l[:n], slices.Concat(l[n:], more))
				was := slices.Clone(sample.Whole(in))
				agree(t, in)
				if !slices.Equal(sample.Whole(in), was) {
					t.Errorf("%v was changed", was)
				}
			}
		}
	}
}

// scribble turns all of l, its room too, into other nodes.
func scribble(l []api.Node) {
	for i := range sample.Whole(l) {
		sample.Whole(l)[i] = api.Node{Kind: api.Idle, N: 9}
	}
}

// TestNotKept: R2: an answer shares no memory with another one, its spare room included, and nothing is kept of what was handed in.
func TestNotKept(t *testing.T) {
	for _, l := range append(rows()[:60], letters("a"), letters("."), letters("ab"), letters("aaa"), letters("ababab"), letters("abcabcd")) {
		in := sample.Roomy(l, letters("abab"))
		for _, first := range [][]api.Node{fold.Table(in), fold.Plain(in)} {
			folded, long := fold.Table(in), fold.Plain(in)
			was, room := slices.Clone(sample.Whole(folded)), slices.Clone(sample.Whole(long))
			scribble(first)
			for i := range sample.Whole(in) {
				sample.Whole(in)[i] = api.Run{Part: 4, N: 9}
			}
			if !slices.Equal(sample.Whole(folded), was) || !slices.Equal(sample.Whole(long), room) {
				t.Errorf("an answer of %v hangs on another one, or on its argument still", l)
			}
			// Another row in the same memory is told anew.
			agree(t, in)
			copy(sample.Whole(in), slices.Concat(l, letters("abab")))
			agree(t, in)
		}
	}
}
