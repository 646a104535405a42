package isa_test

import (
	"math"
	"slices"
	"testing"

	"horarium/api"
	"horarium/isa"
	"horarium/sample"
)

func TestFetch(t *testing.T) {
	p := []byte{1, 2, 3, 4, 5, 6, 7, 8, 255, 254, 253, 252, 9, 9, 9}
	for _, c := range []struct {
		pc   int
		want api.Inst
		ok   bool
	}{
		{0, api.Inst{Op: 1, A: 2, B: 3, C: 4}, true},
		{4, api.Inst{Op: 5, A: 6, B: 7, C: 8}, true},
		{8, api.Inst{Op: 255, A: 254, B: 253, C: 252}, true},
		{1, api.Inst{}, false},
		{2, api.Inst{}, false},
		{3, api.Inst{}, false},
		{7, api.Inst{}, false},
		{11, api.Inst{}, false},
		{12, api.Inst{}, false},
		{15, api.Inst{}, false},
		{16, api.Inst{}, false},
		{-1, api.Inst{}, false},
		{-4, api.Inst{}, false},
		{-8, api.Inst{}, false},
		{math.MaxInt, api.Inst{}, false},
		{math.MaxInt - 3, api.Inst{}, false},
		{math.MinInt, api.Inst{}, false},
		{math.MinInt + 4, api.Inst{}, false},
		{1 << 32, api.Inst{}, false},
		{1<<32 + 4, api.Inst{}, false},
	} {
		if got, ok := isa.Fetch(p, c.pc); got != c.want || ok != c.ok {
			t.Errorf("Fetch at %d: %v, %v, want %v, %v", c.pc, got, ok, c.want, c.ok)
		}
	}
}

// TestFetchNothing: R4: nil and an empty list are the same, also one with room.
func TestFetchNothing(t *testing.T) {
	for _, p := range [][]byte{nil, {}, make([]byte, 0, 8), sample.Roomy(nil, []byte{1, 2, 3, 4, 5, 6, 7, 8})} {
		for pc := -20; pc <= 20; pc++ {
			if got, ok := isa.Fetch(p, pc); ok || got != (api.Inst{}) {
				t.Errorf("Fetch of nothing at %d: %v, %v", pc, got, ok)
			}
		}
		for _, pc := range odd() {
			fetches(t, p, pc)
		}
	}
}

// TestFetchEach: programs of each length, whole ones and such as end within an instruction, at each place in them and about them.
func TestFetchEach(t *testing.T) {
	draw := dice(1)
	for n := range 70 {
		for range 3 {
			p := program(draw, n)
			for pc := -20; pc <= n+20; pc++ {
				fetches(t, p, pc)
			}
			for _, pc := range odd() {
				fetches(t, p, pc)
			}
		}
	}
}

// TestFetchByte: each byte stands in its own field, whatever it is.
func TestFetchByte(t *testing.T) {
	for n := range 256 {
		for _, rest := range []byte{0, 7, 255} {
			for field := range 4 {
				p := slices.Repeat([]byte{rest}, 12)
				p[4+field] = byte(n)
				want := [4]int{int(rest), int(rest), int(rest), int(rest)}
				want[field] = n
				got, ok := isa.Fetch(p, 4)
				if !ok || got != (api.Inst{Op: want[0], A: want[1], B: want[2], C: want[3]}) {
					t.Errorf("Fetch of %x at 4: %v, %v", p, got, ok)
				}
			}
		}
	}
}

// TestFetchLong: a program longer than a partition's may be is fetched from as any other, up to its end.
func TestFetchLong(t *testing.T) {
	for _, n := range []int{api.MaxProg - 1, api.MaxProg, api.MaxProg + 1, api.MaxProg + 3, api.MaxProg + 4, 1 << 16, 1<<20 + 3} {
		p := make([]byte, n)
		for i := range p {
			p[i] = byte(i ^ i>>8)
		}
		for _, pc := range []int{0, 4, n/2 - n/2%4, n/2 - n/2%4 + 1, n - n%4 - 8, n - n%4 - 4, n - n%4 - 3, n - n%4, n - 4, n - 3, n - 1, n, n + 1, n + 4, 2 * n} {
			want := api.Inst{}
			whole := pc%4 == 0 && pc+4 <= n
			if whole {
				want = api.Inst{Op: int(p[pc]), A: int(p[pc+1]), B: int(p[pc+2]), C: int(p[pc+3])}
			}
			if got, ok := isa.Fetch(p, pc); got != want || ok != whole {
				t.Errorf("Fetch of %d bytes at %d: %v, %v, want %v, %v", n, pc, got, ok, want, whole)
			}
		}
	}
}

// TestFetchOps: of what Fetch tells, each number is that of a byte, so its op and registers alone decide whether it is right.
func TestFetchOps(t *testing.T) {
	for op := range 256 {
		for _, n := range []byte{0, 7, 8, 255} {
			for field := range 3 {
				p := []byte{byte(op), 0, 0, 0}
				p[1+field] = n
				i, ok := isa.Fetch(p, 0)
				if !ok {
					t.Fatalf("Fetch of %x: none", p)
				}
				rights(t, i)
			}
		}
	}
}
