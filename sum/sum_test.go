package sum_test

import (
	"slices"
	"testing"

	"horarium/sum"
)

const poly33 = 1<<32 | 0x04c11db7

// divided is the sum as a long division of polynomials: another way than the package's, so that a slip in one is not in both.
func divided(b []byte) uint32 {
	var bits []byte
	for _, x := range b {
		for k := 7; k >= 0; k-- {
			bits = append(bits, x>>k&1)
		}
	}
	bits = append(bits, make([]byte, 32)...)
	for i := range 32 {
		bits[i] ^= 1
	}
	for i := range len(bits) - 32 {
		if bits[i] == 0 {
			continue
		}
		for k := range 33 {
			bits[i+k] ^= byte(uint64(poly33) >> (32 - k) & 1)
		}
	}
	var rest uint32
	for _, x := range bits[len(bits)-32:] {
		rest = rest<<1 | uint32(x)
	}
	return ^rest
}

// stepped is one byte's step as a long division of 40 bits.
func stepped(c uint32, b byte) uint32 {
	v := uint64(c^uint32(b)<<24) << 8
	for k := 39; k >= 32; k-- {
		if v>>k&1 == 1 {
			v ^= uint64(poly33) << (k - 32)
		}
	}
	return uint32(v)
}

func sealed(b []byte) []byte {
	c := divided(b)
	return append(slices.Clone(b), byte(c>>24), byte(c>>16), byte(c>>8), byte(c))
}

// inputs: rows of many lengths, the same at each run.
func inputs() [][]byte {
	out := [][]byte{nil, {}, {0}, {0xff}, {0, 0, 0, 0}, {0xff, 0xff, 0xff, 0xff}, []byte("123456789"), make([]byte, 1000)}
	x := uint32(1)
	for n := range 70 {
		b := make([]byte, n)
		for i := range b {
			x = x*1664525 + 1013904223
			b[i] = byte(x >> 24)
		}
		out = append(out, b)
	}
	return out
}

func TestOf(t *testing.T) {
	for _, c := range []struct {
		b    string
		want uint32
	}{
		{"123456789", 0xfc891918},
		{"", 0},
		{"\x00", 0xb1f7404b},
		{"\xff", 0x000000ff},
		{"\xff\xff\xff\xff", 0xffffffff},
	} {
		if got := sum.Of([]byte(c.b)); got != c.want {
			t.Errorf("Of(%q): %#x, want %#x", c.b, got, c.want)
		}
	}
	if got := sum.Of(nil); got != 0 {
		t.Errorf("Of(nil): %#x", got)
	}
	for _, b := range inputs() {
		if got, want := sum.Of(b), divided(b); got != want {
			t.Errorf("Of(%x): %#x, want %#x", b, got, want)
		}
	}
}

func TestOfLong(t *testing.T) {
	b := make([]byte, 1<<16)
	for i := range b {
		b[i] = byte(i ^ i>>8)
	}
	if got, want := sum.Of(b), divided(b); got != want {
		t.Errorf("Of 2^16 bytes: %#x, want %#x", got, want)
	}
}

func TestNext(t *testing.T) {
	for _, c := range []struct {
		c    uint32
		b    byte
		want uint32
	}{
		{0, 0, 0},
		{0, 1, 0x04c11db7},
		{1, 0, 0x100},
		{1 << 24, 1, 0},
		{1 << 24, 0, 0x04c11db7},
		{0xa5 << 24, 0xa5, 0},
		{0xff << 24, 0xff, 0},
	} {
		if got := sum.Next(c.c, c.b); got != c.want {
			t.Errorf("Next(%#x, %#x): %#x, want %#x", c.c, c.b, got, c.want)
		}
	}
	x := uint32(7)
	for b := range 256 {
		for _, c := range []uint32{0, 1, 1 << 23, 1 << 24, 1 << 31, ^uint32(0), x} {
			if got, want := sum.Next(c, byte(b)), stepped(c, byte(b)); got != want {
				t.Fatalf("Next(%#x, %#x): %#x, want %#x", c, b, got, want)
			}
		}
		x = x*1664525 + 1013904223
	}
}

// TestNextIsOf: Next over each byte, from 2^32 - 1 on, with its bits turned, is Of.
func TestNextIsOf(t *testing.T) {
	for _, b := range inputs() {
		c := ^uint32(0)
		for _, x := range b {
			c = sum.Next(c, x)
		}
		if got := sum.Of(b); got != ^c {
			t.Errorf("Of(%x): %#x, by Next %#x", b, got, ^c)
		}
	}
}

func TestSeal(t *testing.T) {
	if got, want := sum.Seal([]byte("123456789")), []byte("123456789\xfc\x89\x19\x18"); !slices.Equal(got, want) {
		t.Errorf("Seal: %x, want %x", got, want)
	}
	if got := sum.Seal(nil); !slices.Equal(got, make([]byte, 4)) {
		t.Errorf("Seal of nothing: %x", got)
	}
	for _, b := range inputs() {
		if got, want := sum.Seal(b), sealed(b); !slices.Equal(got, want) {
			t.Errorf("Seal(%x): %x, want %x", b, got, want)
		}
	}
}

func TestOpen(t *testing.T) {
	for _, b := range inputs() {
		if got, ok := sum.Open(sealed(b)); !ok || !slices.Equal(got, b) {
			t.Errorf("Open of %x sealed: %x, %v", b, got, ok)
		}
		twice := sum.Seal(sum.Seal(b))
		got, ok := sum.Open(twice)
		if !ok || !slices.Equal(got, sealed(b)) {
			t.Errorf("Open of %x sealed twice: %x, %v", b, got, ok)
		}
	}
	if got, ok := sum.Open(make([]byte, 4)); !ok || len(got) > 0 {
		t.Errorf("Open of the sum of nothing: %x, %v", got, ok)
	}
}

// refused: b is not opened, and the other result is none.
func refused(t *testing.T, what string, b []byte) {
	t.Helper()
	if got, ok := sum.Open(b); ok || len(got) > 0 {
		t.Errorf("Open of %s, %x: %x, %v", what, b, got, ok)
	}
}

func TestOpenShort(t *testing.T) {
	refused(t, "nil", nil)
	for n := range 4 {
		refused(t, "few zeros", make([]byte, n))
		refused(t, "few ones", slices.Repeat([]byte{0xff}, n))
		refused(t, "a beginning", sum.Seal([]byte("123456789"))[:n])
		// The room behind the length would make the sum of nothing whole.
		refused(t, "few bytes with room", make([]byte, n, 4))
	}
}

// TestOpenTurned: each bit by itself, of the bytes and of the sum.
func TestOpenTurned(t *testing.T) {
	for _, b := range inputs()[:40] {
		s := sealed(b)
		for i := range s {
			for k := range 8 {
				s[i] ^= 1 << k
				refused(t, "a turned bit", s)
				s[i] ^= 1 << k
			}
		}
	}
}

func TestOpenWrong(t *testing.T) {
	s := sum.Seal([]byte("123456789"))
	for n := range s {
		refused(t, "a beginning", s[:n])
	}
	for n := 1; n < len(s); n++ {
		refused(t, "an end", s[n:])
	}
	for b := range 256 {
		refused(t, "one byte more behind", append(slices.Clone(s), byte(b)))
		refused(t, "one byte more ahead", append([]byte{byte(b)}, s...))
	}
	refused(t, "a sum with the lowest byte first", []byte("123456789\x18\x19\x89\xfc"))
	refused(t, "a sum whose bits are not turned", []byte("123456789\x03\x76\xe6\xe7"))
	refused(t, "bytes of 0 with a sum of 0", make([]byte, 5))
	refused(t, "a sum alone, ahead", []byte("\xfc\x89\x19\x18123456789"))
}

// roomy is b with room behind its length, filled with mark.
func roomy(b []byte, mark byte) []byte {
	whole := slices.Concat(b, slices.Repeat([]byte{mark}, 16))
	return whole[:len(b)]
}

func whole(b []byte) []byte {
	return b[:cap(b)]
}

// TestNotChanged: R2, R5: what is handed in stays, and its spare room is neither read nor written.
func TestNotChanged(t *testing.T) {
	for _, b := range inputs() {
		for _, mark := range []byte{0, 0xa5} {
			in := roomy(b, mark)
			was := slices.Clone(whole(in))
			if sum.Of(in) != divided(b) || !slices.Equal(sum.Seal(in), sealed(b)) {
				t.Errorf("with room of %#x: another sum of %x", mark, b)
			}
			if !slices.Equal(whole(in), was) {
				t.Errorf("Of, Seal changed %x", was)
			}
			in = roomy(sealed(b), mark)
			was = slices.Clone(whole(in))
			if got, ok := sum.Open(in); !ok || !slices.Equal(got, b) {
				t.Errorf("with room of %#x: Open of %x: %x, %v", mark, in, got, ok)
			}
			in[len(in)-1] ^= 1
			refused(t, "a turned bit, with room", in)
			in[len(in)-1] ^= 1
			if !slices.Equal(whole(in), was) {
				t.Errorf("Open changed %x", was)
			}
		}
	}
}

// TestNotKept: R2: an answer shares no memory with what was handed in, nor with another answer, its spare room included.
func TestNotKept(t *testing.T) {
	seal := func(b []byte) []byte { return sum.Seal(b) }
	open := func(b []byte) []byte {
		out, ok := sum.Open(b)
		if !ok {
			t.Fatalf("Open of %x", b)
		}
		return out
	}
	for _, b := range inputs() {
		apart(t, "Seal", seal, roomy(b, 0xa5))
		apart(t, "Open", open, roomy(sealed(b), 0xa5))
	}
}

func apart(t *testing.T, what string, call func([]byte) []byte, in []byte) {
	t.Helper()
	wasIn := slices.Clone(whole(in))
	first, second := call(in), call(in)
	wasSecond := slices.Clone(whole(second))
	scribble(whole(first))
	if !slices.Equal(whole(in), wasIn) {
		t.Errorf("%s of %x: the answer is the argument's memory", what, wasIn)
	}
	if !slices.Equal(whole(second), wasSecond) {
		t.Errorf("%s of %x: two answers share memory", what, wasIn)
	}
	scribble(whole(in))
	if !slices.Equal(whole(second), wasSecond) {
		t.Errorf("%s of %x: the argument is kept", what, wasIn)
	}
}

func scribble(b []byte) {
	for i := range b {
		b[i] ^= 0xff
	}
}
