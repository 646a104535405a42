package graph_test

import (
	"math"
	"slices"
	"testing"

	"horarium/api"
	"horarium/graph"
	"horarium/sample"
)

// Short names of what sample makes.
var (
	module          = sample.Module
	last, queue     = sample.Last, sample.Queue
	square, picture = sample.Square, sample.Picture
	pairs           = sample.Pairs
	roomyRows       = sample.RoomyRows
	wholeRows       = sample.WholeRows
	turn            = sample.Turn
	whole           = sample.WholeModule
)

// few: modules of few partitions and channels.
func few() []api.Config { return sample.Few(2) }

// drawn: modules of any number of them.
func drawn() []api.Config { return sample.Modules(8) }

// far are numbers that no partition has, where there are fewer than 100.
func far() []int {
	return []int{-2, -3, -100, math.MinInt32, -1 << 32, 1 - 1<<32, math.MinInt + 1, math.MinInt, 100, 1 << 31, 1 << 32, 1<<32 + 1, math.MaxInt - 1, math.MaxInt}
}

// between: is there a channel of which the first end is a, the second one b, and that is what is asked?
func between(c api.Config, a, b int, asked func(api.Chan) bool) bool {
	return slices.ContainsFunc(c.Chans, func(x api.Chan) bool { return x.From == a && x.To == b && asked(x) })
}

// depends is the second reckoning of Depends, of two partitions: pair by pair by the chapter's words, where the package goes channel by channel.
func depends(c api.Config, a, b int) bool {
	always := func(api.Chan) bool { return true }
	return a == b || between(c, a, b, always) || between(c, b, a, always) || c.Parts[a].Sched && c.Parts[b].Sched
}

// sways is that of Sways.
func sways(c api.Config, a, b int) bool {
	always := func(api.Chan) bool { return true }
	return a == b || between(c, a, b, always) || between(c, b, a, func(x api.Chan) bool { return x.Queue }) || c.Parts[a].Sched || c.Parts[a].Stop
}

// free is that of Free, of any numbers.
func free(c api.Config, a, b int) bool {
	is := func(p int) bool { return 0 <= p && p < len(c.Parts) }
	switch {
	case a == -1 && b == -1:
		return true
	case a == -1:
		return is(b)
	case b == -1:
		return is(a)
	}
	return is(a) && is(b) && !depends(c, a, b)
}

// closed is the second reckoning of Closure: step upon step is added as long as one is missing.
func closed(m [][]bool) [][]bool {
	out := pairs(len(m), func(a, b int) bool { return m[a][b] })
	for {
		was := picture(out)
		for a := range out {
			for b := range out {
				for via := range out {
					out[a][b] = out[a][b] || out[a][via] && out[via][b]
				}
			}
		}
		if picture(out) == was {
			return out
		}
	}
}

// agree: every call answers of c what the second reckoning does.
func agree(t *testing.T, c api.Config) {
	t.Helper()
	n := len(c.Parts)
	if got, want := picture(graph.Depends(c)), picture(pairs(n, func(a, b int) bool { return depends(c, a, b) })); got != want || len(graph.Depends(c)) != n {
		t.Errorf("Depends(%.500v): %s, want %s", c, got, want)
	}
	direct := pairs(n, func(a, b int) bool { return sways(c, a, b) })
	if got, want := picture(graph.Sways(c)), picture(direct); got != want || len(graph.Sways(c)) != n {
		t.Errorf("Sways(%.500v): %s, want %s", c, got, want)
	}
	all := closed(direct)
	if got := picture(graph.Closure(graph.Sways(c))); got != picture(all) {
		t.Errorf("Closure(Sways(%.500v)): %s, want %s", c, got, picture(all))
	}
	some := []int{-2, n + 2, math.MinInt, math.MaxInt}
	for p := -1; p <= n+1; p++ {
		some = append(some, p)
	}
	for _, a := range some {
		var want []int
		for q := range n {
			if 0 <= a && a < n && all[q][a] {
				want = append(want, q)
			}
		}
		if got := graph.Reach(c, a); !slices.Equal(got, want) {
			t.Errorf("Reach(%.500v, %d): %v, want %v", c, a, got, want)
		}
		for _, b := range some {
			if got := graph.Free(c, a, b); got != free(c, a, b) {
				t.Errorf("Free(%.500v, %d, %d): %v", c, a, b, got)
			}
		}
	}
}

// each asks of the modules l one by one, up to the first of which something is wrong: there are too many to tell of all.
func each(t *testing.T, l []api.Config, ask func(c api.Config)) {
	t.Helper()
	for _, c := range l {
		ask(c)
		if t.Failed() {
			return
		}
	}
}
