package reduce_test

import (
	"math/rand/v2"
	"slices"
	"testing"

	"horarium/api"
	"horarium/bound"
	"horarium/graph"
	"horarium/reduce"
	"horarium/runs"
	"horarium/sample"
	"horarium/word"
)

// limbs is the three that Valid asks, one by one.
func limbs(c api.Config, a, b []api.Run) [3]bool {
	return [3]bool{word.Same(a, b, graph.Depends(c)), bound.Holds(c, b) == api.OK, runs.Right(b)}
}

// broken: of Valid's limbs the one at place at alone is broken; none, if at is none.
func broken(t *testing.T, c api.Config, a, b []api.Run, at int) {
	t.Helper()
	want := [3]bool{true, true, true}
	if at >= 0 {
		want[at] = false
	}
	if got := limbs(c, a, b); got != want {
		t.Errorf("%+v, %s, %s: the limbs are %v", c, short(a), short(b), got)
	}
	valids(t, c, a, b, at < 0)
}

// TestValidSame: somebody can tell, and nothing else is wrong.
func TestValidSame(t *testing.T) {
	tied, sched := module(make([]api.Part, 3), ch(0, 1, 0)), module([]api.Part{{Sched: true}, {}, {Sched: true, Stop: true}})
	queue := sample.Module("---", sample.Queue(2, 0))
	l := spelt("abc.")
	for _, x := range []struct {
		c    api.Config
		b    string
		want bool
	}{
		{free(3), "abc.", true}, {free(3), ".cba", true}, {free(0), "bc.a", true}, {free(1), "bc.a", true},
		// Ends that are none tie nobody.
		{module(make([]api.Part, 3), ch(0, 3, 0), ch(-1, 1, 0), ch(7, 2, 0)), "c.ba", true}, {module(make([]api.Part, 2), ch(0, 2, 0)), "cab.", true},
		{tied, "abc.", true}, {tied, "acb.", true}, {tied, "cab.", true}, {tied, ".acb", true}, {tied, "bac.", false}, {tied, "bca.", false}, {tied, "cba.", false}, {tied, "b.ca", false},
		{module(make([]api.Part, 3), ch(1, 0, 0)), "bac.", false}, {queue, "bac.", true}, {queue, "bca.", false}, {queue, "acb.", true}, {queue, "c.ab", false},
		{sched, "acb.", true}, {sched, "cab.", false}, {sched, "bac.", true}, {sched, "cba.", false}, {module([]api.Part{{Stop: true}, {Stop: true}, {Stop: true}}), "cba.", true}, {module([]api.Part{{Sched: true}, {Stop: true}, {}}), "cba.", true},
		// A channel to one that has one to a third ties not the first and the third.
		{module(make([]api.Part, 3), ch(0, 1, 0), ch(1, 2, 0)), "abc.", true}, {module(make([]api.Part, 3), ch(0, 1, 0), ch(1, 2, 0)), "ab.c", true}, {module(make([]api.Part, 3), ch(0, 2, 0), ch(1, 2, 0)), "bac.", true}, {module(make([]api.Part, 3), ch(0, 1, 0), ch(1, 2, 0)), "acb.", false},
	} {
		at := -1
		if !x.want {
			at = 0
		}
		broken(t, x.c, l, spelt(x.b), at)
		broken(t, x.c, spelt(x.b), l, at)
	}
	// The last two of as many partitions as may be, and of more.
	for _, n := range []int{6, 7, 9} {
		for _, x := range []struct {
			c  api.Config
			at int
		}{{free(n), -1}, {module(make([]api.Part, n), ch(4, 5, 0)), 0}, {module(make([]api.Part, n), ch(5, 0, 0)), -1}, {module(append(make([]api.Part, 4), slices.Repeat([]api.Part{{Sched: true}}, n-4)...)), 0}, {module(make([]api.Part, n), ch(4, 6, 0), ch(6, 5, 0)), -1}} {
			broken(t, x.c, spelt("fea"), spelt("efa"), x.at)
		}
	}
	// Not as many ticks of a partition, of none; another partition.
	for _, s := range []string{"abc..", "abc", "ab.", "aabc.", "abcd.", "abd.", "ab..", "a", ".", "abcf."} {
		for _, c := range []api.Config{free(3), tied, sched, {}} {
			broken(t, c, l, spelt(s), 0)
			broken(t, c, spelt(s), l, 0)
		}
	}
}

// TestValidHolds: what is asked of the second row, and nothing else is wrong; nothing is asked of the first one.
func TestValidHolds(t *testing.T) {
	for _, x := range []struct {
		parts []api.Part
		chans []api.Chan
		a, b  string
		at    int
	}{
		{make([]api.Part, 3), []api.Chan{ch(0, 1, 1)}, "abc.", "acb.", 1}, {make([]api.Part, 3), []api.Chan{ch(0, 1, 1)}, "acb.", "abc.", -1}, {make([]api.Part, 3), []api.Chan{ch(0, 1, 1)}, "acb.", "acb.", 1}, {make([]api.Part, 3), []api.Chan{ch(0, 1, 1)}, "a.cb", "acb.", 1},
		{make([]api.Part, 3), []api.Chan{ch(0, 1, 2)}, "abc.", "acb.", -1}, {make([]api.Part, 3), []api.Chan{ch(0, 1, 0)}, "abc.", "ac.b", -1}, {make([]api.Part, 3), []api.Chan{ch(0, 1, -1)}, "abc.", "ac.b", -1}, {make([]api.Part, 3), []api.Chan{ch(0, 4, 9)}, "abc.", "abc.", 1},
		{[]api.Part{part(1, 2)}, nil, "ab.a", "aab.", 1}, {[]api.Part{part(1, 2)}, nil, "aab.", "ab.a", -1}, {[]api.Part{part(1, 2)}, nil, "aab.", "aab.", 1}, {[]api.Part{part(2, 4)}, nil, "ab.a", "aab.", -1}, {[]api.Part{part(1, 3)}, nil, "ab.a", "ab.a", 1}, {[]api.Part{part(0, 3)}, nil, "ab.a", "aab.", -1}, {[]api.Part{{}, {}, part(1, 4)}, nil, "ab.a", "ab.a", 1},
	} {
		broken(t, module(x.parts, x.chans...), spelt(x.a), spelt(x.b), x.at)
	}
}

// TestValidRight: rows that are none of a frame, and nothing else is wrong; of the first one nothing is asked.
func TestValidRight(t *testing.T) {
	ab := slices.Repeat(spelt("ab"), 48)
	for _, c := range []api.Config{{}, free(2), free(7), module(make([]api.Part, 2), ch(0, 1, 0)), module([]api.Part{{Sched: true}, {Sched: true}}, ch(1, 1, 0))} {
		for _, x := range []struct {
			wrong, right []api.Run
		}{
			{append(slices.Clone(ab), row(1, 1)...), append(slices.Clone(ab[:95]), row(1, 2)...)}, {slices.Repeat(row(0, 1), 97), row(0, 97)},
			{row(0, 1, 1, 0), row(0, 1)}, {row(0, 1, 1, -5), row(0, 1)}, {row(0, 1, -1, least, 1, 1), spelt("ab")}, {row(6, 1, 0, 1), row(0, 1)}, {row(-2, 1, 0, 1), row(0, 1)}, {row(0, 1, 1<<62, 4), row(0, 1)},
		} {
			broken(t, c, x.wrong, x.wrong, 2)
			broken(t, c, x.right, x.wrong, 2)
			broken(t, c, x.wrong, x.right, -1)
			broken(t, c, x.right, x.right, -1)
		}
		for _, l := range [][]api.Run{nil, {}, row(0, 4097), row(-1, 4096, 0, 1), row(0, 2000, 1, 2097), row(0, greatest), append(slices.Repeat(row(0, 43, 1, 42), 47), row(0, 58, 1, 44)...)} {
			broken(t, c, l, l, 2)
		}
		for _, l := range [][]api.Run{row(0, 4096), row(-1, 4096), row(0, 4000, 1, 96), ab, slices.Repeat(row(0, 1), 96), row(5, 1), row(-1, 1), append(slices.Repeat(row(0, 43, 1, 42), 47), row(0, 58, 1, 43)...), spelt("aab.."), spelt("...")} {
			broken(t, c, l, l, -1)
		}
	}
	// Several at once.
	late := module(make([]api.Part, 2), ch(0, 1, 1))
	valids(t, late, spelt("ab"), row(1, 0, 0, 1, -1, 5, 1, 1), false)
	valids(t, late, spelt("ab."), row(1, 1, 0, 1, -1, 1), false)
	valids(t, late, nil, nil, false)
}

// TestValidDrawn: of drawn rows, some of them turned about, held against the second reckoning; each limb is broken alone often enough.
func TestValidDrawn(t *testing.T) {
	r := rand.New(rand.NewPCG(11, 5))
	often := map[[3]bool]int{}
	for _, c := range modules() {
		n := len(c.Parts)
		a := sample.Tossed(r.IntN, r.IntN(9), n)
		c = asked(r, c, a)
		others := [][]api.Run{a, runs.Tidy(a), sample.Tossed(r.IntN, len(a), n), slices.Concat(a, row(1, 0)), slices.Concat(a, row(7, 1)), slices.Concat(a, row(-1, 1))}
		for range 6 {
			b := slices.Clone(a)
			for range r.IntN(5) {
				at := r.IntN(len(a) + 1)
				b = word.Swap(b, at)
			}
			others = append(others, b)
		}
		for _, b := range others {
			valids(t, c, a, b, valid(c, a, b))
			valids(t, c, b, a, valid(c, b, a))
			often[limbs(c, a, b)]++
		}
	}
	for _, one := range [][3]bool{{true, true, true}, {false, true, true}, {true, false, true}, {true, true, false}} {
		if often[one] < 300 {
			t.Errorf("%v: no more than %d", one, often[one])
		}
	}
}

// TestExamples: the chapter's run and its examples.
func TestExamples(t *testing.T) {
	for p := range 6 {
		for _, n := range []int64{1, 2, 5, 4096} {
			for _, c := range []api.Config{{}, free(1), free(6), module(make([]api.Part, 6), ch(0, 1, 0))} {
				tells(t, c, window(p, n), window(p, n), api.Report{Runs: 1, Was: 1, Nodes: 1, WasNode: 1}, api.OK)
			}
			c := module([]api.Part{part(1, 1)}, ch(0, 0, 1))
			valids(t, c, row(0, n), row(0, n), true)
		}
	}
	for _, none := range [][]api.Node{nil, {}} {
		for _, c := range []api.Config{{}, free(2), module([]api.Part{part(2, 1)}, ch(0, 1, 1))} {
			tells(t, c, none, nil, api.Report{}, api.ErrForm)
		}
	}
	for _, s := range []string{"a", "ab", "abab", ".a.b", "aab"} {
		valids(t, module(make([]api.Part, 2), ch(0, 1, 4)), spelt(s), spelt(s), s != "a")
		valids(t, module(make([]api.Part, 2), ch(1, 0, 4)), spelt(s), spelt(s), true)
	}
	if n := len(reduce.Passes()); n != 2 {
		t.Errorf("%d passes", n)
	}
}
