package isa_test

import (
	"math"
	"testing"

	"horarium/api"
	"horarium/isa"
)

func TestRight(t *testing.T) {
	for _, c := range []struct {
		i    api.Inst
		want bool
	}{
		{api.Inst{}, true},
		{api.Inst{Op: api.Nop, A: 255, B: 255, C: 255}, true},
		{api.Inst{Op: api.Nop, A: 256}, false},
		{api.Inst{Op: api.Set, A: 7, B: 255, C: 255}, true},
		{api.Inst{Op: api.Set, A: 8}, false},
		{api.Inst{Op: api.Add, A: 7, B: 7, C: 7}, true},
		{api.Inst{Op: api.Div, C: 8}, false},
		{api.Inst{Op: api.Load, A: 7, B: 7, C: 255}, true},
		{api.Inst{Op: api.Store, B: 8}, false},
		{api.Inst{Op: api.Jmp, A: 255, B: 255, C: 255}, true},
		{api.Inst{Op: api.Jz, A: 8}, false},
		{api.Inst{Op: api.Send, A: 255, B: 7, C: 255}, true},
		{api.Inst{Op: api.Recv, A: 8, B: 8}, false},
		{api.Inst{Op: api.Time, A: -1}, false},
		{api.Inst{Op: api.End, C: -1}, false},
		{api.Inst{Op: api.End, A: 255, B: 255, C: 255}, true},
		{api.Inst{Op: 18}, false},
		{api.Inst{Op: -1}, false},
	} {
		if got := isa.Right(c.i); got != c.want {
			t.Errorf("Right(%+v): %v", c.i, got)
		}
	}
}

// TestRightField: each op with each number in one field, the others at each of their ends.
func TestRightField(t *testing.T) {
	for _, k := range kinds() {
		for n := -300; n < 600; n++ {
			for _, rest := range []int{0, api.Regs - 1, api.Regs, 255} {
				rights(t, api.Inst{Op: k.op, A: n, B: rest, C: rest})
				rights(t, api.Inst{Op: k.op, A: rest, B: n, C: rest})
				rights(t, api.Inst{Op: k.op, A: rest, B: rest, C: n})
			}
		}
		for _, n := range odd() {
			rights(t, api.Inst{Op: k.op, A: n})
			rights(t, api.Inst{Op: k.op, B: n})
			rights(t, api.Inst{Op: k.op, C: n})
			rights(t, api.Inst{Op: k.op, A: n, B: n, C: n})
		}
	}
}

// TestRightTogether: each op with all numbers at which something begins or ends, together.
func TestRightTogether(t *testing.T) {
	some := []int{0, 1, api.Regs - 1, api.Regs, api.Regs + 1, 254, 255, 256, 257, -1, -255, -256, 1 << 32, 1<<32 + 7, math.MaxInt, math.MinInt}
	for op := -3; op < 22; op++ {
		for _, a := range some {
			for _, b := range some {
				for _, c := range some {
					rights(t, api.Inst{Op: op, A: a, B: b, C: c})
				}
			}
		}
	}
}

// TestRightNoOp: what is no op is not right, though its low bits be those of one.
func TestRightNoOp(t *testing.T) {
	for _, op := range noOps() {
		for _, n := range []int{0, 7, 8, 255} {
			if isa.Right(api.Inst{Op: op, A: n, B: n, C: n}) {
				t.Errorf("Right of op %d", op)
			}
		}
	}
}

// noOps are numbers of no op.
func noOps() []int {
	out := odd()
	for n := 1; n < 300; n++ {
		out = append(out, -n, api.End+n)
	}
	for op := range 18 {
		for k := 8; k < 63; k++ {
			out = append(out, op+1<<k, op-1<<k)
		}
		out = append(out, op+math.MinInt)
	}
	return out
}

func TestName(t *testing.T) {
	had := map[string]int{}
	for _, k := range kinds() {
		if got := isa.Name(k.op); got != k.name {
			t.Errorf("Name(%d): %q, want %q", k.op, got, k.name)
		}
		had[isa.Name(k.op)]++
	}
	if len(had) != 18 || had[""] > 0 {
		t.Errorf("the names are not each unlike the others: %v", had)
	}
	for name := range had {
		for _, b := range []byte(name) {
			if b < 'a' || b > 'z' {
				t.Errorf("%q is not in small letters", name)
			}
		}
	}
}

// TestNameNone: what is no op has no name.
func TestNameNone(t *testing.T) {
	for _, op := range append(noOps(), 18, -1, math.MaxInt, math.MinInt) {
		if got := isa.Name(op); got != "" {
			t.Errorf("Name(%d): %q", op, got)
		}
	}
}

// TestNameRight: just what has a name can be right.
func TestNameRight(t *testing.T) {
	for op := -1000; op < 1000; op++ {
		if isa.Right(api.Inst{Op: op}) != (isa.Name(op) != "") {
			t.Errorf("op %d, %q: Right %v", op, isa.Name(op), isa.Right(api.Inst{Op: op}))
		}
	}
}
