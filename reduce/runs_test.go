package reduce_test

import (
	"slices"
	"testing"

	"horarium/api"
	"horarium/reduce"
	"horarium/runs"
)

// TestRuns: rows, what is left of them at the end, and how many passes there were.
func TestRuns(t *testing.T) {
	tied, late := []api.Chan{ch(0, 1, 0)}, []api.Chan{ch(0, 1, 2)}
	for _, x := range []struct {
		l, want []api.Run
		n       int
		chans   []api.Chan
	}{
		// Nothing to be done.
		{nil, nil, 0, nil}, {row(0, 5), row(0, 5), 0, nil}, {row(-1, 4096), row(-1, 4096), 0, nil}, {spelt("ab.c"), spelt("ab.c"), 0, nil}, {spelt("abab"), spelt("abab"), 0, tied},
		// Merge alone; Draw alone; one, then the other.
		{spelt("aab"), row(0, 2, 1, 1), 1, nil}, {spelt("aaaa"), row(0, 4), 1, nil}, {row(0, 1, 1, 0, 2, 1), spelt("ac"), 1, nil}, {row(0, 1, 1, -1, 0, 1), row(0, 2), 1, nil}, {spelt("aabb"), row(0, 2, 1, 2), 1, tied},
		{spelt("aba"), row(0, 2, 1, 1), 1, nil}, {row(0, 1, 1, 2, 0, 3), row(0, 4, 1, 2), 1, nil}, {spelt("abcabc"), row(0, 2, 1, 2, 2, 2), 2, nil}, {spelt("ababab"), row(0, 3, 1, 3), 2, nil}, {spelt("a.a."), row(0, 2, -1, 2), 1, nil}, {spelt("a.b."), row(0, 1, -1, 2, 1, 1), 1, nil}, {spelt("abcabc"), row(0, 1, 1, 1, 2, 2, 0, 1, 1, 1), 1, tied},
		{spelt("aabba"), row(0, 3, 1, 2), 2, nil}, {spelt("abbac"), row(0, 2, 1, 2, 2, 1), 2, nil}, {spelt("aabbaabb"), row(0, 2, 1, 2, 0, 2, 1, 2), 1, tied}, {row(2, 1, 1, 0, 0, 1, 0, 1, 2, 1), row(2, 2, 0, 2), 2, tied},
		// What a first pass makes is not valid, for it does not hold: it is let go, and Draw tried.
		{spelt("accbc"), row(0, 1, 1, 1, 2, 3), 2, late}, {row(0, 1, 2, 3, 1, 1, 2, 0), row(0, 1, 1, 1, 2, 3), 1, late}, {row(0, 1, 2, 0, 2, 3, 1, 1), row(0, 1, 2, 0, 2, 3, 1, 1), 0, late}, {spelt("acccb"), spelt("acccb"), 0, late}, {spelt("aa..bb."), spelt("aa..bb."), 0, late}, {row(0, 2, -1, 2, 1, 2, -1, 1), row(0, 2, 1, 2, -1, 3), 1, late}, {spelt("a..bb."), row(0, 1, 1, 2, -1, 3), 2, late},
		// Of what Draw makes the last one that holds is kept.
		{spelt("acbc"), row(0, 1, 2, 2, 1, 1), 1, []api.Chan{ch(0, 1, 3)}}, {spelt("acbc"), row(0, 1, 1, 1, 2, 2), 1, late}, {spelt("ca.cb"), row(2, 2, 0, 1, -1, 1, 1, 1), 1, late}, {spelt("acb.a"), row(0, 1, 2, 1, 1, 1, -1, 1, 0, 1), 0, late},
	} {
		c := module(make([]api.Part, 3), x.chans...)
		ends(t, c, x.l, x.want, x.n)
		agree(t, c, x.l)
	}
}

// TestRunsNever: of rows that do not hold, and that no pass brings to hold, nothing is changed, tidy or not.
func TestRunsNever(t *testing.T) {
	for _, l := range [][]api.Run{nil, spelt("a"), spelt("aab"), spelt("abab"), row(0, 1, 1, 0), spelt("..."), spelt("a.a.")} {
		for _, c := range []api.Config{module([]api.Part{part(9, 9)}), module([]api.Part{part(1, 0), {}}), module(make([]api.Part, 7), ch(0, 6, 9), ch(1, 6, 9), ch(-1, 6, 9))} {
			if len(l) > 0 || len(c.Chans) == 0 {
				ends(t, c, l, l, 0)
			}
		}
	}
	// A row that does not hold may come to.
	late := module(make([]api.Part, 3), ch(0, 1, 1))
	ends(t, late, spelt("acbc"), row(0, 1, 1, 1, 2, 2), 1)
	ends(t, module([]api.Part{part(1, 2)}), spelt("a.b.a."), spelt("a.b.a."), 0)
	ends(t, module([]api.Part{part(1, 3)}), spelt("a.b.ba"), row(0, 1, -1, 2, 1, 2, 0, 1), 1)
}

// TestRunsWrong: rows that are none of a frame: what is made of them counts just if it is one.
func TestRunsWrong(t *testing.T) {
	c, tied := free(2), module(make([]api.Part, 2), ch(0, 1, 0))
	for _, x := range []struct {
		c       api.Config
		l, want []api.Run
		n       int
	}{
		// Too many ticks, or a number that is no partition's, stay so.
		{c, row(0, 5000, 0, 1), row(0, 5000, 0, 1), 0}, {c, row(0, 4096, 1, 1, 0, 1), row(0, 4096, 1, 1, 0, 1), 0}, {c, row(0, greatest, 0, greatest), row(0, greatest, 0, greatest), 0}, {c, row(6, 1, 6, 1), row(6, 1, 6, 1), 0}, {c, row(-2, 1, 0, 1, -2, 1), row(-2, 1, 0, 1, -2, 1), 0},
		// Runs of no ticks, of less, go.
		{c, row(0, 0, 1, 1), row(1, 1), 1}, {c, row(9, 0, 1, 1), row(1, 1), 1}, {c, row(0, 1, 1, least, 0, 1, 1, 1, 0, 1), row(0, 3, 1, 1), 2}, {tied, row(0, 1, 1, least, 0, 1, 1, 1, 0, 1), row(0, 2, 1, 1, 0, 1), 1},
		// No row is none of a frame.
		{c, row(0, 0), row(0, 0), 0}, {c, row(0, 0, 1, -1, 0, -1), row(0, 0, 1, -1, 0, -1), 0},
		// Too many runs: if one pass leaves few enough of them, it counts.
		{c, slices.Repeat(spelt("a"), 97), row(0, 97), 1}, {c, slices.Repeat(spelt("a"), 4096), row(0, 4096), 1}, {c, slices.Repeat(spelt("a"), 4097), slices.Repeat(spelt("a"), 4097), 0}, {tied, slices.Repeat(spelt("aab"), 40), slices.Repeat(row(0, 2, 1, 1), 40), 1}, {tied, slices.Repeat(spelt("aab"), 49), slices.Repeat(spelt("aab"), 49), 0},
		{c, slices.Repeat(spelt("ab"), 48), row(0, 48, 1, 48), 47}, {c, slices.Repeat(spelt("ab"), 49), row(0, 49, 1, 49), 48}, {c, slices.Repeat(spelt("ab"), 50), slices.Repeat(spelt("ab"), 50), 0}, {tied, slices.Repeat(spelt("ab"), 49), slices.Repeat(spelt("ab"), 49), 0},
		// Merge leaves too many; Draw does not, if its first move is another one.
		{c, slices.Concat(slices.Repeat(spelt("ab"), 48), spelt("acc")), row(0, 49, 1, 48, 2, 2), 48}, {c, slices.Concat(spelt("ccc"), slices.Repeat(spelt("ab"), 48)), slices.Concat(spelt("ccc"), slices.Repeat(spelt("ab"), 48)), 0},
	} {
		ends(t, x.c, x.l, x.want, x.n)
		plainly(t, x.c, x.l)
	}
}

// TestRunsEnd: at the end of a row that may be nothing fits any more, and the end's end is itself.
func TestRunsEnd(t *testing.T) {
	for _, l := range [][]api.Run{spelt("ab.c.ab.c"), spelt("aabbccaabbcc"), spelt(".a.b.c.a.b.c"), slices.Repeat(spelt("abc."), 24)} {
		for _, c := range []api.Config{free(3), module(make([]api.Part, 3), ch(0, 1, 0)), module(make([]api.Part, 3), ch(0, 1, 3)), module(make([]api.Part, 3), ch(1, 2, 0), ch(0, 1, 9)), module([]api.Part{part(1, 4), part(1, 12)})} {
			x, n := reduce.Runs(c, l)
			if len(x)+n > len(l) || !reduce.Stuck(c, x) || !runs.Right(x) {
				t.Errorf("Runs(%+v, %s): %s, %d", c, short(l), short(x), n)
			}
			ends(t, c, x, x, 0)
			agree(t, c, l)
		}
	}
}
