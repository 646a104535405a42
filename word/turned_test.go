package word_test

import (
	"math/rand/v2"
	"slices"
	"testing"

	"horarium/api"
	"horarium/graph"
	"horarium/sample"
	"horarium/word"
)

// classes is a number for each text of ticks, the same for two just where one is made of the other by turning about neighbours that are free, again and again.
func classes(texts [][]byte, free func(x, y byte) bool) map[string]int {
	out := map[string]int{}
	for i, first := range texts {
		todo := []string{string(first)}
		for len(todo) > 0 {
			next := todo[len(todo)-1]
			todo = todo[:len(todo)-1]
			if _, ok := out[next]; ok {
				continue
			}
			out[next] = i
			for at := range max(0, len(next)-1) {
				if free(next[at], next[at+1]) {
					todo = append(todo, next[:at]+next[at+1:at+2]+next[at:at+1]+next[at+2:])
				}
			}
		}
	}
	return out
}

// TestClasses: P8.2, both ways: what is turned about step by step, each step of two that do not depend, is the same to all, and nothing else is.
func TestClasses(t *testing.T) {
	texts := sample.Each([]byte(".abc"), 4)
	for _, dep := range squares(3) {
		class := classes(texts, func(x, y byte) bool { return x == '.' || y == '.' || !dep[x-'a'][y-'a'] })
		for _, a := range texts {
			for _, b := range texts {
				want := class[string(a)] == class[string(b)]
				if got := word.Same(spelt(string(a)), spelt(string(b)), dep); got != want {
					t.Fatalf("Same of %s and %s by %s: %v", a, b, picture(dep), got)
				}
			}
		}
	}
}

// seen is what each partition can tell at most: in each of its ticks, how many ticks each one had with which it has to do.
func seen(l []api.Run, dep [][]bool) [][]int {
	out := make([][]int, len(dep))
	gone := make([]int, len(dep))
	for _, x := range l {
		for range x.N {
			if x.Part < 0 {
				continue
			}
			gone[x.Part]++
			for q, is := range dep[x.Part] {
				if is {
					out[x.Part] = append(out[x.Part], gone[q])
				}
			}
		}
	}
	return out
}

// ticks is how many l has.
func ticks(l []api.Run) int64 {
	var out int64
	for _, x := range l {
		out += x.N
	}
	return out
}

// modules are such as there may be: of up to MaxParts partitions.
func modules() []api.Config {
	return append(sample.Few(1), sample.Modules(api.MaxParts)...)
}

// frame is so many runs of n partitions and idle ones, drawn.
func frame(r *rand.Rand, long, n int) []api.Run {
	return sample.Tossed(r.IntN, long, n)
}

// freely is l turned about at many drawn places, where the runs there are Free.
func freely(c api.Config, l []api.Run, r *rand.Rand) []api.Run {
	for range 4 * len(l) {
		at := r.IntN(len(l) - 1)
		if graph.Free(c, l[at].Part, l[at+1].Part) {
			l = word.Swap(l, at)
		}
	}
	return l
}

// TestTurned: P8.2: two runs side by side, and such within a frame, turned about: the same to all just where they are Free or of one.
func TestTurned(t *testing.T) {
	r := rand.New(rand.NewPCG(8, 1))
	for _, c := range modules() {
		n, dep := len(c.Parts), graph.Depends(c)
		for p := -1; p < n; p++ {
			for q := -1; q < n; q++ {
				turns(t, c, []api.Run{{Part: p, N: 2}, {Part: q, N: 1}}, dep)
			}
		}
		turns(t, c, frame(r, 8, n), dep)
	}
}

// turns: l, turned about at each of its places, is the same to all just where it may be.
func turns(t *testing.T, c api.Config, l []api.Run, dep [][]bool) {
	t.Helper()
	for at := range len(l) - 1 {
		p, q := l[at].Part, l[at+1].Part
		m := word.Swap(l, at)
		want := graph.Free(c, p, q) || p == q
		if got := word.Same(l, m, dep); got != want {
			t.Fatalf("%v, %v turned about at %d: %v", c, l, at, got)
		}
		if x, y, no := word.Differ(l, m, dep); no && (x != min(p, q) || y != max(p, q)) {
			t.Fatalf("%v, %v turned about at %d: %d and %d can tell", c, l, at, x, y)
		}
	}
}

// TestNothing: a run without ticks may be turned about with any.
func TestNothing(t *testing.T) {
	r := rand.New(rand.NewPCG(8, 2))
	for i, c := range modules() {
		l := frame(r, 6, len(c.Parts))
		l[1].N, l[4].N = 0, -int64(i)
		for _, at := range []int{0, 1, 3, 4} {
			if !word.Same(l, word.Swap(l, at), graph.Depends(c)) {
				t.Fatalf("%v, %v turned about at %d", c, l, at)
			}
		}
	}
}

// TestTell: W1: rows are the same to all just where no partition can tell them apart, and they are as long.
func TestTell(t *testing.T) {
	r := rand.New(rand.NewPCG(8, 3))
	often := 0
	for _, c := range modules() {
		n, dep := len(c.Parts), graph.Depends(c)
		a := frame(r, 6, n)
		for _, b := range [][]api.Run{frame(r, 6, n), freely(c, a, r), word.Swap(freely(c, a, r), r.IntN(5)), word.Swap(word.Swap(a, r.IntN(5)), r.IntN(5))} {
			want := ticks(a) == ticks(b) && slices.EqualFunc(seen(a, dep), seen(b, dep), slices.Equal)
			if got := word.Same(a, b, dep); got != want {
				t.Fatalf("%v: Same of %v and %v: %v", c, a, b, got)
			}
			if !want {
				often++
			}
		}
	}
	if often < 1000 {
		t.Errorf("no more than %d rows were told apart", often)
	}
}

// TestWorld: W1: of rows that are the same to all, a module at work has the same ports, pending table and traces after each frame.
func TestWorld(t *testing.T) {
	r := rand.New(rand.NewPCG(8, 4))
	moved := 0
	for _, c := range modules() {
		l := frame(r, 9, len(c.Parts))
		for range 3 {
			m := freely(c, l, r)
			if !word.Same(l, m, graph.Depends(c)) {
				t.Fatalf("%v: %v, turned about to %v, is not the same to all", c, l, m)
			}
			if !slices.Equal(l, m) {
				moved++
			}
			first, turned := sample.Begin(c), sample.Begin(c)
			for range 3 {
				first.Frame(l)
				turned.Frame(m)
				if !first.Same(turned) {
					t.Fatalf("%v: %v and %v can be told apart", c, l, m)
				}
			}
		}
	}
	if moved < 1000 {
		t.Errorf("no more than %d were turned about", moved)
	}
}
