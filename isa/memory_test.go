package isa_test

import (
	"slices"
	"testing"

	"horarium/api"
	"horarium/isa"
	"horarium/sample"
)

// TestFetchRoom: R2, R5: the program stays, and what stands in its spare room is no part of it.
func TestFetchRoom(t *testing.T) {
	draw := dice(7)
	for n := range 40 {
		for _, more := range [][]byte{nil, {1}, {1, 2, 3}, make([]byte, 8), slices.Repeat([]byte{255}, 16)} {
			p := sample.Roomy(program(draw, n), more)
			was := slices.Clone(sample.Whole(p))
			for pc := -8; pc < n+20; pc++ {
				fetches(t, p, pc)
			}
			if !slices.Equal(sample.Whole(p), was) {
				t.Fatalf("Fetch changed %x", was)
			}
		}
	}
}

// TestFetchNotKept: R2, R4: what was fetched stays when the program does not, and a program turned is fetched as it is then.
func TestFetchNotKept(t *testing.T) {
	draw := dice(8)
	room := make([]byte, 0, 64)
	for range 1000 {
		p := append(room[:0], program(draw, draw(64))...)
		pc := 4 * draw(16)
		want := there(p)[pc]
		got, _ := isa.Fetch(p, pc)
		for i := range p {
			p[i] ^= 0xff
		}
		if got != want {
			t.Fatalf("what was fetched at %d turned to %v, want %v", pc, got, want)
		}
		fetches(t, p, pc)
	}
}

// TestBytesRoom: R2, R5: the instructions stay, and those in their spare room are not written.
func TestBytesRoom(t *testing.T) {
	draw := dice(9)
	for n := range 40 {
		l := drawn(draw, n)
		for _, more := range [][]api.Inst{nil, {{Op: 1, A: 2, B: 3, C: 4}}, make([]api.Inst, 9)} {
			in := sample.Roomy(l, more)
			was := slices.Clone(sample.Whole(in))
			writes(t, in)
			writes(t, in[:n/2])
			if !slices.Equal(sample.Whole(in), was) {
				t.Fatalf("Bytes changed %+v", was)
			}
		}
	}
}

// TestBytesNew: R2: an answer is new memory, its room included; it stays when another answer, or what it was made of, does not.
func TestBytesNew(t *testing.T) {
	draw := dice(10)
	for n := range 40 {
		l := drawn(draw, n)
		want := written(l)
		first, second := isa.Bytes(l), isa.Bytes(l)
		was := slices.Clone(sample.Whole(second))
		room := sample.Whole(first)
		for i := range room {
			room[i] ^= 0xff
		}
		_ = append(first, 1, 2, 3, 4)
		again := slices.Clone(l)
		clear(l)
		if !slices.Equal(sample.Whole(second), was) || !slices.Equal(second, want) {
			t.Fatalf("Bytes(%+v) hangs on other memory", again)
		}
		writes(t, l)
		writes(t, again)
	}
}

// TestNothing: R4: no instructions are no bytes, whether the list is nil or empty.
func TestNothing(t *testing.T) {
	for _, l := range [][]api.Inst{nil, {}, make([]api.Inst, 0, 4), sample.Roomy(nil, []api.Inst{{Op: 1}, {Op: 2}})} {
		if got := isa.Bytes(l); len(got) > 0 {
			t.Errorf("Bytes of nothing: %x", got)
		}
	}
}
