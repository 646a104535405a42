package graph_test

import (
	"math/rand/v2"
	"slices"
	"strings"
	"testing"

	"horarium/api"
	"horarium/graph"
	"horarium/sample"
)

// closes: Closure of m is what the second reckoning says.
func closes(t *testing.T, m [][]bool) {
	t.Helper()
	if got, want := picture(graph.Closure(m)), picture(closed(m)); got != want || len(graph.Closure(m)) != len(m) {
		t.Errorf("Closure(%s): %s, want %s", picture(m), got, want)
	}
}

func TestClosure(t *testing.T) {
	for m, want := range map[string]string{
		"": "", ".": ".", "1": "1",
		// Nothing to go on from, and closed already.
		".. ..": ".. ..", ".1 ..": ".1 ..", "1. .1": "1. .1", "11 .1": "11 .1", "11 11": "11 11", ".11 ..1 ...": ".11 ..1 ...",
		// By one step more.
		".1. ..1 ...": ".11 ..1 ...", "... 1.. .1.": "... 1.. 11.", "1.. 1.. .1.": "1.. 1.. 11.", "..1 ... .1.": ".11 ... .1.",
		// By many.
		".1... ..1.. ...1. ....1 .....": ".1111 ..111 ...11 ....1 .....", "..... 1.... .1... ..1.. ...1.": "..... 1.... 11... 111.. 1111.",
		"...1. ..... .1... ....1 ..1..": ".1111 ..... .1... .11.1 .11..", ".1.... ..1... ...... ....1. .....1 ......": ".11... ..1... ...... ....11 .....1 ......",
		// Round: all of the round, each itself too.
		".1 1.": "11 11", ".1. ..1 1..": "111 111 111", "..1 1.. .1.": "111 111 111", ".1. 1.. 1..": "11. 11. 11.", ".1. 1.1 ...": "111 111 ...", ".1.. 1... ...1 ..1.": "11.. 11.. ..11 ..11",
		"1. ..": "1. ..", "1.. .11 ...": "1.. .11 ...",
	} {
		if got := picture(graph.Closure(square(m))); got != want {
			t.Errorf("Closure(%s): %s, want %s", m, got, want)
		}
		closes(t, square(m))
		closes(t, square(want))
	}
}

// TestLeast: of each square of three, Closure is what all squares have in common that have it and lead no further: a third way to reckon it.
func TestLeast(t *testing.T) {
	var all []string
	for _, row := range sample.Each([]byte(".1"), 9) {
		if len(row) == 9 {
			all = append(all, string(row))
		}
	}
	thirds := func(s string) string { return s[:3] + " " + s[3:6] + " " + s[6:] }
	ends := slices.DeleteFunc(slices.Clone(all), func(s string) bool { return picture(closed(square(thirds(s)))) != thirds(s) })
	for _, m := range all {
		least := strings.Repeat("1", 9)
		for _, end := range ends {
			if both(m, end) == m {
				least = both(least, end)
			}
		}
		if got := picture(graph.Closure(square(thirds(m)))); got != thirds(least) {
			t.Errorf("Closure(%s): %s, want %s", thirds(m), got, thirds(least))
		}
	}
}

// both is 1 where a and b are.
func both(a, b string) string {
	out := []byte(a)
	for i := range out {
		if b[i] != '1' {
			out[i] = '.'
		}
	}
	return string(out)
}

// TestSquares: each square of up to four, and drawn ones of more, from bare to full.
func TestSquares(t *testing.T) {
	for n := range 4 {
		for bits := range 1 << (n * n) {
			closes(t, pairs(n, func(a, b int) bool { return bits>>(a*n+b)&1 == 1 }))
		}
	}
	for bits := range 1 << 16 {
		m := pairs(4, func(a, b int) bool { return bits>>(a*4+b)&1 == 1 })
		closes(t, m)
	}
	r := rand.New(rand.NewPCG(1, 2))
	for range 3000 {
		n, bare := 1+r.IntN(14), 1+r.IntN(20)
		closes(t, pairs(n, func(a, b int) bool { return r.IntN(bare) == 0 }))
	}
}

// TestTwice: P7.2: Closure has m, leads no further by two steps, and stays as it is.
func TestTwice(t *testing.T) {
	for _, c := range drawn() {
		m := graph.Sways(c)
		x := graph.Closure(m)
		if picture(graph.Closure(x)) != picture(x) {
			t.Errorf("Closure twice of %s", picture(m))
		}
		for a := range m {
			for b := range m {
				if m[a][b] && !x[a][b] {
					t.Errorf("Closure(%s) has not all of it: %s", picture(m), picture(x))
				}
				for via := range m {
					if x[a][via] && x[via][b] && !x[a][b] {
						t.Errorf("Closure(%s) leads further: %s", picture(m), picture(x))
					}
				}
			}
		}
	}
}

func TestNotSquare(t *testing.T) {
	for _, m := range [][][]bool{
		{nil}, {{}}, {{true, true}}, {{false, false}}, {nil, nil}, {nil, {true}},
		square("1 1"), square("1. 1"), square("1 1."), square("11 111"), square("111 11"), square("111 1"), square("1 111"), square("111 111"), square("11 11 11"),
		square("111 111 11"), square("11 111 111"), square("111 11 111"), square("111 111 1111"), square("1111 111 111"), square("... ... .."), square("1111 1 1111 111"),
		{{true, true}, nil}, {nil, {true, true}}, {{true, true}, {true, true}, nil}, {{true, true, true}, {true, true, true}, nil}, append(square("11 11"), []bool{}),
	} {
		if got := graph.Closure(m); len(got) > 0 {
			t.Errorf("Closure(%s), not square: %s", picture(m), picture(got))
		}
	}
	// One row of each square one too long, or too short.
	for n := 1; n < 6; n++ {
		for at := range n {
			for _, long := range []int{0, n - 1, n + 1, 2 * n} {
				m := pairs(n, func(a, b int) bool { return true })
				m[at] = make([]bool, long)
				if got := graph.Closure(m); long != n && len(got) > 0 {
					t.Errorf("Closure of %d rows, %d of %d: %s", n, at, long, picture(got))
				}
			}
		}
	}
}

// TestGreat: a great many partitions and channels.
func TestGreat(t *testing.T) {
	const many = 1 << 16
	c := module(strings.Repeat("-", many))
	for p := range many - 1 {
		// From the last one on, so that going channel by channel leads one step a time.
		c.Chans = append(c.Chans, last(many-2-p, many-1-p))
	}
	if got := graph.Reach(c, many-1); len(got) != many || got[0] != 0 || got[many-1] != many-1 {
		t.Errorf("Reach of the last of a row: %d", len(got))
	}
	if got := graph.Reach(c, 0); !slices.Equal(got, []int{0}) {
		t.Errorf("Reach of the first of a row: %d", len(got))
	}
	if got := graph.Reach(c, many/2); len(got) != many/2+1 {
		t.Errorf("Reach in the midst of a row: %d", len(got))
	}
	if !graph.Free(c, 0, many-1) || graph.Free(c, 0, 1) || graph.Free(c, many-1, many-2) || graph.Free(c, 0, many) || !graph.Free(c, many-1, -1) {
		t.Error("Free of a row")
	}
	for i := range c.Chans {
		c.Chans[i].Queue = true
	}
	if got := graph.Reach(c, 0); len(got) != many {
		t.Errorf("Reach of the first of a row of queues: %d", len(got))
	}
	if got := graph.Depends(module("--", slices.Repeat([]api.Chan{last(0, 1), queue(0, 2), last(-1, 0)}, many)...)); picture(got) != "11 11" {
		t.Errorf("Depends with many channels: %s", picture(got))
	}
	round := pairs(400, func(a, b int) bool { return b == (a+1)%400 })
	if got := graph.Closure(round); picture(got) != picture(pairs(400, func(a, b int) bool { return true })) {
		t.Error("Closure of a round of 400")
	}
	round[399][0] = false
	if got := graph.Closure(round); picture(got) != picture(pairs(400, func(a, b int) bool { return a < b })) {
		t.Error("Closure of a row of 400")
	}
	if got := graph.Closure(pairs(400, func(a, b int) bool { return a != b })); picture(got) != picture(pairs(400, func(a, b int) bool { return true })) {
		t.Error("Closure of 400, each to all others")
	}
}
