package isa_test

import (
	"math"
	"math/big"
	"math/rand/v2"
	"slices"
	"strings"
	"testing"

	"horarium/api"
	"horarium/isa"
	"horarium/sample"
)

// kind is what there is to know of an op: what it is called, and which of A, B, C are registers.
type kind struct {
	op         int
	name, regs string
}

// kinds are the ops, as the chapter tells of them.
func kinds() []kind {
	return []kind{
		{api.Nop, "nop", ""},
		{api.Set, "set", "A"},
		{api.Add, "add", "ABC"},
		{api.Sub, "sub", "ABC"},
		{api.Mul, "mul", "ABC"},
		{api.Div, "div", "ABC"},
		{api.Load, "load", "AB"},
		{api.Store, "store", "AB"},
		{api.Jmp, "jmp", ""},
		{api.Jz, "jz", "A"},
		{api.Wait, "wait", "A"},
		{api.Send, "send", "B"},
		{api.Recv, "recv", "B"},
		{api.In, "in", "A"},
		{api.Time, "time", "A"},
		{api.Change, "change", "A"},
		{api.StopAll, "stopall", ""},
		{api.End, "end", ""},
	}
}

// right is what Right must answer, field by field.
func right(i api.Inst) bool {
	at := slices.IndexFunc(kinds(), func(k kind) bool { return k.op == i.Op })
	if at < 0 {
		return false
	}
	for field, n := range map[string]int{"A": i.A, "B": i.B, "C": i.C} {
		most := 255
		if strings.Contains(kinds()[at].regs, field) {
			most = 7
		}
		if n < 0 || n > most {
			return false
		}
	}
	return true
}

// low are the lowest so many bits of n, by way of numbers of any size.
func low(n *big.Int, bits uint) uint64 {
	end := new(big.Int).Lsh(big.NewInt(1), bits)
	return new(big.Int).Mod(n, end).Uint64()
}

// imm is what Imm must answer.
func imm(i api.Inst) uint32 {
	n := new(big.Int).Mul(big.NewInt(256), big.NewInt(int64(i.B)))
	return uint32(low(n.Add(n, big.NewInt(int64(i.C))), 32))
}

// written is what Bytes must answer.
func written(l []api.Inst) []byte {
	var out []byte
	for _, i := range l {
		for _, n := range []int{i.Op, i.A, i.B, i.C} {
			out = append(out, byte(low(big.NewInt(int64(n)), 8)))
		}
	}
	return out
}

// there are the instructions of p, each at its place.
func there(p []byte) map[int]api.Inst {
	out := map[int]api.Inst{}
	for four := range slices.Chunk(p, 4) {
		if len(four) == 4 {
			out[4*len(out)] = api.Inst{Op: int(four[0]), A: int(four[1]), B: int(four[2]), C: int(four[3])}
		}
	}
	return out
}

// odd are numbers that nothing in a program is, and such as have the same low bits as one that is.
func odd() []int {
	out := []int{math.MinInt, math.MinInt + 1, math.MinInt + 3, math.MinInt + 4, math.MinInt + 8, math.MaxInt, math.MaxInt - 1, math.MaxInt - 2, math.MaxInt - 3, math.MaxInt - 4, math.MaxInt - 7}
	for _, n := range sample.Odd() {
		out = append(out, int(n))
	}
	for k := 8; k < 63; k++ {
		for _, n := range []int{0, 1, 2, 3, 4, 7, 8, 12, 255} {
			out = append(out, 1<<k+n, -1<<k+n, 1<<k-n-1)
		}
	}
	slices.Sort(out)
	return slices.DeleteFunc(slices.Compact(out), func(n int) bool { return n >= 0 && n < 256 })
}

// dice draws numbers below another one.
func dice(seed uint64) func(below int) int {
	return rand.New(rand.NewPCG(15, seed)).IntN
}

// program draws so many bytes, many of which are likely ones of instructions.
func program(draw func(below int) int, n int) []byte {
	p := make([]byte, n)
	for i := range p {
		p[i] = byte(draw([]int{8, 18, 256}[draw(3)]))
	}
	return p
}

// drawn are so many instructions, with numbers of any size.
func drawn(draw func(below int) int, n int) []api.Inst {
	some := append(odd(), -1, 0, 1, 7, 8, 127, 128, 255, 256, 257, 511, 512)
	l := make([]api.Inst, n)
	for k := range l {
		l[k] = api.Inst{Op: some[draw(len(some))], A: some[draw(len(some))], B: some[draw(len(some))], C: some[draw(len(some))]}
		if draw(2) == 0 {
			l[k] = api.Inst{Op: draw(18), A: draw(8), B: draw(8), C: draw(8)}
		}
	}
	return l
}

// fetches: Fetch answers of p at pc what stands there.
func fetches(t *testing.T, p []byte, pc int) {
	t.Helper()
	want, is := there(p)[pc]
	if got, ok := isa.Fetch(p, pc); got != want || ok != is {
		t.Fatalf("Fetch(%x, %d): %v, %v, want %v, %v", p[:min(len(p), 40)], pc, got, ok, want, is)
	}
}

// rights: Right answers of i what is reckoned.
func rights(t *testing.T, i api.Inst) {
	t.Helper()
	if got, want := isa.Right(i), right(i); got != want {
		t.Fatalf("Right(%+v): %v, want %v", i, got, want)
	}
}

// writes: Bytes answers of l what is reckoned; that.
func writes(t *testing.T, l []api.Inst) []byte {
	t.Helper()
	got, want := isa.Bytes(l), written(l)
	if !slices.Equal(got, want) {
		t.Fatalf("Bytes of %d, %+v: %x, want %x", len(l), l[:min(len(l), 10)], got[:min(len(got), 40)], want[:min(len(want), 40)])
	}
	return got
}
