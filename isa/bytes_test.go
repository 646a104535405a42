package isa_test

import (
	"bytes"
	"math"
	"slices"
	"testing"

	"horarium/api"
	"horarium/isa"
)

func TestBytes(t *testing.T) {
	for _, c := range []struct {
		l    []api.Inst
		want []byte
	}{
		{nil, nil},
		{[]api.Inst{}, nil},
		{[]api.Inst{{}}, []byte{0, 0, 0, 0}},
		{[]api.Inst{{Op: 1, A: 2, B: 3, C: 4}}, []byte{1, 2, 3, 4}},
		{[]api.Inst{{Op: 1, A: 2, B: 3, C: 4}, {Op: 255, A: 254, B: 253, C: 252}, {}}, []byte{1, 2, 3, 4, 255, 254, 253, 252, 0, 0, 0, 0}},
		{[]api.Inst{{Op: -1, A: 256, B: 257, C: -256}}, []byte{255, 0, 1, 0}},
		{[]api.Inst{{Op: math.MaxInt, A: math.MinInt, B: 1<<32 + 9, C: -257}}, []byte{255, 0, 9, 255}},
	} {
		if got := isa.Bytes(c.l); !slices.Equal(got, c.want) {
			t.Errorf("Bytes(%+v): %x, want %x", c.l, got, c.want)
		}
	}
}

// TestBytesAny: numbers of any size, wherever one stands.
func TestBytesAny(t *testing.T) {
	numbers := odd()
	for n := -600; n < 600; n++ {
		numbers = append(numbers, n)
	}
	for _, n := range numbers {
		writes(t, []api.Inst{{Op: n}, {A: n}, {B: n}, {C: n}, {Op: n, A: n, B: n, C: n}})
	}
	draw := dice(2)
	for n := range 200 {
		writes(t, drawn(draw, n))
	}
}

// TestBytesBeginning: what is longer goes on as the shorter one with the same beginning, and is that one followed by the rest.
func TestBytesBeginning(t *testing.T) {
	l := drawn(dice(3), 100)
	all := writes(t, l)
	for n := range len(l) + 1 {
		b := writes(t, l[:n])
		if len(b) != 4*n || !bytes.HasPrefix(all, b) || !slices.Equal(all, slices.Concat(b, writes(t, l[n:]))) {
			t.Fatalf("Bytes of the first %d of %+v: %x", n, l, b)
		}
	}
}

// TestBytesBack: what was written is fetched again, one behind the other, each number by its low eight bits, and nothing behind it.
func TestBytesBack(t *testing.T) {
	draw := dice(4)
	for n := range 140 {
		l := drawn(draw, n)
		b := isa.Bytes(l)
		var again []api.Inst
		for pc := 0; ; pc += 4 {
			i, ok := isa.Fetch(b, pc)
			if !ok {
				break
			}
			again = append(again, i)
		}
		if len(again) != n || !slices.Equal(isa.Bytes(again), b) {
			t.Fatalf("Bytes of %+v are fetched as %+v", l, again)
		}
		for k, i := range l {
			if isa.Right(i) && again[k] != i {
				t.Fatalf("%+v, which is right, is fetched as %+v", i, again[k])
			}
		}
	}
}

// TestFetchBack: the instructions of a program that ends with one are that program once more; of one cut off, all but what is over.
func TestFetchBack(t *testing.T) {
	draw := dice(5)
	for n := range 300 {
		p := program(draw, n)
		var l []api.Inst
		for pc := range p {
			if i, ok := isa.Fetch(p, pc); ok {
				l = append(l, i)
			}
		}
		if !slices.Equal(writes(t, l), p[:n-n%4]) {
			t.Fatalf("%x is fetched as %+v", p, l)
		}
	}
}

// TestBytesGreat: a great many instructions.
func TestBytesGreat(t *testing.T) {
	const many = 1 << 18
	l := make([]api.Inst, many)
	want := make([]byte, 4*many)
	for k := range l {
		l[k] = api.Inst{Op: k, A: k >> 8, B: -k, C: k * k}
		copy(want[4*k:], []byte{byte(k), byte(k >> 8), byte(-k), byte(k * k)})
	}
	if !slices.Equal(isa.Bytes(l), want) {
		t.Error("Bytes of a great many are not four each, in order")
	}
}

func TestImm(t *testing.T) {
	for _, c := range []struct {
		i    api.Inst
		want uint32
	}{
		{api.Inst{B: 1, C: 2}, 258},
		{api.Inst{}, 0},
		{api.Inst{C: 255}, 255},
		{api.Inst{B: 255}, 65280},
		{api.Inst{B: 255, C: 255}, 65535},
		{api.Inst{Op: 17, A: 255, B: 2, C: 1}, 513},
		{api.Inst{Op: -1, A: math.MinInt}, 0},
		{api.Inst{C: 256}, 256},
		{api.Inst{B: 1, C: 256}, 512},
		{api.Inst{B: 1, C: -1}, 255},
		{api.Inst{C: -1}, 1<<32 - 1},
		{api.Inst{B: -1}, 1<<32 - 256},
		{api.Inst{B: 1 << 24}, 0},
		{api.Inst{B: 1<<24 - 1, C: 255}, 1<<32 - 1},
		{api.Inst{B: 1<<24 - 1, C: 256}, 0},
		{api.Inst{B: math.MaxInt, C: math.MaxInt}, 1<<32 - 257},
		{api.Inst{B: math.MinInt, C: math.MinInt}, 0},
	} {
		if got := isa.Imm(c.i); got != c.want {
			t.Errorf("Imm(%+v): %d, want %d", c.i, got, c.want)
		}
	}
}

// TestImmAny: each two bytes, and numbers of any size; nothing hangs on Op and A.
func TestImmAny(t *testing.T) {
	numbers := append(odd(), -1, 0, 1, 7, 8, 127, 128, 255, 256)
	check := func(i api.Inst) {
		if got, want := isa.Imm(i), imm(i); got != want {
			t.Fatalf("Imm(%+v): %d, want %d", i, got, want)
		}
	}
	for b := range 256 {
		for c := range 256 {
			check(api.Inst{B: b, C: c})
			check(api.Inst{Op: c, A: b, B: b, C: c})
		}
	}
	for _, n := range numbers {
		for _, m := range []int{0, 1, 255, 256, -1, math.MaxInt, math.MinInt} {
			check(api.Inst{B: n, C: m})
			check(api.Inst{B: m, C: n})
			check(api.Inst{Op: n, A: n, B: 1, C: 2})
		}
	}
	for _, i := range drawn(dice(6), 10000) {
		check(i)
	}
}
