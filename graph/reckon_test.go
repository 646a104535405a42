package graph_test

import (
	"math"
	"math/rand/v2"
	"slices"
	"testing"

	"horarium/api"
	"horarium/graph"
	"horarium/sample"
)

// module is a configuration with a partition for each letter: s is Sched, t is Stop, b is both, - is neither.
func module(letters string, chans ...api.Chan) api.Config {
	c := api.Config{Chans: chans}
	for _, x := range []byte(letters) {
		c.Parts = append(c.Parts, api.Part{Sched: x == 's' || x == 'b', Stop: x == 't' || x == 'b'})
	}
	return c
}

// last is a channel that holds the last value alone.
func last(from, to int) api.Chan {
	return api.Chan{From: from, To: to}
}

// queue is a channel that holds many values.
func queue(from, to int) api.Chan {
	return api.Chan{From: from, To: to, Queue: true, Cap: 2}
}

// picture is m row by row: 1 is true, a point is false.
func picture(m [][]bool) string {
	var out []byte
	for at, row := range m {
		if at > 0 {
			out = append(out, ' ')
		}
		for _, x := range row {
			if x {
				out = append(out, '1')
			} else {
				out = append(out, '.')
			}
		}
	}
	return string(out)
}

// square is the rows of a picture.
func square(s string) [][]bool {
	var out [][]bool
	var row []bool
	for _, x := range []byte(s) {
		if x == ' ' {
			out, row = append(out, row), nil
			continue
		}
		row = append(row, x == '1')
	}
	if len(s) > 0 {
		out = append(out, row)
	}
	return out
}

// far are numbers that no partition has, where there are fewer than 100.
func far() []int {
	return []int{-2, -3, -100, math.MinInt32, -1 << 32, 1 - 1<<32, math.MinInt + 1, math.MinInt, 100, 1 << 31, 1 << 32, 1<<32 + 1, math.MaxInt - 1, math.MaxInt}
}

// between: is there a channel of which the first end is a, the second one b, and that is what is asked?
func between(c api.Config, a, b int, asked func(api.Chan) bool) bool {
	return slices.ContainsFunc(c.Chans, func(x api.Chan) bool { return x.From == a && x.To == b && asked(x) })
}

// depends is the second reckoning of Depends, of two partitions: pair by pair by the chapter's words, where the package goes channel by channel.
func depends(c api.Config, a, b int) bool {
	always := func(api.Chan) bool { return true }
	return a == b || between(c, a, b, always) || between(c, b, a, always) || c.Parts[a].Sched && c.Parts[b].Sched
}

// sways is that of Sways.
func sways(c api.Config, a, b int) bool {
	always := func(api.Chan) bool { return true }
	return a == b || between(c, a, b, always) || between(c, b, a, func(x api.Chan) bool { return x.Queue }) || c.Parts[a].Sched || c.Parts[a].Stop
}

// free is that of Free, of any numbers.
func free(c api.Config, a, b int) bool {
	is := func(p int) bool { return 0 <= p && p < len(c.Parts) }
	switch {
	case a == -1 && b == -1:
		return true
	case a == -1:
		return is(b)
	case b == -1:
		return is(a)
	}
	return is(a) && is(b) && !depends(c, a, b)
}

// pairs is the square of what is told of each two of n.
func pairs(n int, told func(a, b int) bool) [][]bool {
	out := make([][]bool, n)
	for a := range n {
		for b := range n {
			out[a] = append(out[a], told(a, b))
		}
	}
	return out
}

// closed is the second reckoning of Closure: step upon step is added as long as one is missing.
func closed(m [][]bool) [][]bool {
	out := pairs(len(m), func(a, b int) bool { return m[a][b] })
	for {
		was := picture(out)
		for a := range out {
			for b := range out {
				for via := range out {
					out[a][b] = out[a][b] || out[a][via] && out[via][b]
				}
			}
		}
		if picture(out) == was {
			return out
		}
	}
}

// agree: every call answers of c what the second reckoning does.
func agree(t *testing.T, c api.Config) {
	t.Helper()
	n := len(c.Parts)
	if got, want := picture(graph.Depends(c)), picture(pairs(n, func(a, b int) bool { return depends(c, a, b) })); got != want || len(graph.Depends(c)) != n {
		t.Errorf("Depends(%.500v): %s, want %s", c, got, want)
	}
	direct := pairs(n, func(a, b int) bool { return sways(c, a, b) })
	if got, want := picture(graph.Sways(c)), picture(direct); got != want || len(graph.Sways(c)) != n {
		t.Errorf("Sways(%.500v): %s, want %s", c, got, want)
	}
	all := closed(direct)
	if got := picture(graph.Closure(graph.Sways(c))); got != picture(all) {
		t.Errorf("Closure(Sways(%.500v)): %s, want %s", c, got, picture(all))
	}
	some := []int{-2, n + 2, math.MinInt, math.MaxInt}
	for p := -1; p <= n+1; p++ {
		some = append(some, p)
	}
	for _, a := range some {
		var want []int
		for q := range n {
			if 0 <= a && a < n && all[q][a] {
				want = append(want, q)
			}
		}
		if got := graph.Reach(c, a); !slices.Equal(got, want) {
			t.Errorf("Reach(%.500v, %d): %v, want %v", c, a, got, want)
		}
		for _, b := range some {
			if got := graph.Free(c, a, b); got != free(c, a, b) {
				t.Errorf("Free(%.500v, %d, %d): %v", c, a, b, got)
			}
		}
	}
}

// each asks of the modules l one by one, up to the first of which something is wrong: there are too many to tell of all.
func each(t *testing.T, l []api.Config, ask func(c api.Config)) {
	t.Helper()
	for _, c := range l {
		ask(c)
		if t.Failed() {
			return
		}
	}
}

// channels are all that there are between ends of some.
func channels(some []int) []api.Chan {
	var out []api.Chan
	for _, from := range some {
		for _, to := range some {
			out = append(out, last(from, to), queue(from, to))
		}
	}
	return out
}

// few: each module of up to three partitions, and up to two channels between these and such as are none.
func few() []api.Config {
	var out []api.Config
	for _, letters := range sample.Each([]byte("-stb"), 3) {
		ends := []int{-1}
		for p := range len(letters) + 1 {
			ends = append(ends, p)
		}
		for _, chans := range sample.Each(channels(ends), 2) {
			out = append(out, module(string(letters), chans...))
		}
	}
	return out
}

// drawn: modules of any number of partitions and channels, a few of which end at none; the same each time.
func drawn() []api.Config {
	var out []api.Config
	r := rand.New(rand.NewPCG(7, 7))
	for range 3000 {
		n := r.IntN(9)
		letters := make([]byte, n)
		for p := range letters {
			letters[p] = "-------------stb"[r.IntN(16)]
		}
		chans := make([]api.Chan, r.IntN(12))
		for i := range chans {
			chans[i] = api.Chan{From: r.IntN(n+2) - 1, To: r.IntN(n+2) - 1, Queue: r.IntN(3) == 0}
		}
		out = append(out, module(string(letters), chans...))
	}
	return out
}
