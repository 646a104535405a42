package code_test

import (
	"math"
	"math/big"
	"slices"
	"strings"
	"testing"

	"horarium/code"
)

// written is n as bytes by numbers of any size: another way than the package's, so that a slip in one is not in both.
func written(n int64) []byte {
	great := new(big.Int).Abs(big.NewInt(n)).Bytes()
	first := byte(len(great))
	if n < 0 {
		first += 128
	}
	return append([]byte{first}, great...)
}

// found is what Get answers: the number that one of b's beginnings is as written writes it.
func found(b []byte) (int64, int) {
	for k := 1; k <= min(9, len(b)); k++ {
		great := new(big.Int).SetBytes(b[1:k])
		for _, n := range []*big.Int{great, new(big.Int).Neg(great)} {
			if n.IsInt64() && slices.Equal(written(n.Int64()), b[:k]) {
				return n.Int64(), k
			}
		}
	}
	return 0, 0
}

// numbers: the edges of each count of bytes on both sides, and some between, the same at each run.
func numbers() []int64 {
	out := []int64{0, math.MaxInt64, math.MinInt64, math.MinInt64 + 1, 300, -300}
	x := uint64(1)
	for k := range 63 {
		x = x*6364136223846793005 + 1442695040888963407
		for _, n := range []int64{1 << k, 1<<k - 1, 1<<k + 1, int64(x >> k)} {
			out = append(out, n, -n)
		}
	}
	return out
}

func fronts() [][]byte {
	return [][]byte{nil, {}, {0}, {9}, {0x82, 0x01, 0x2c}, make([]byte, 300)}
}

// texts: the edges of each count of bytes of a length, and bytes that are no letters.
func texts() []string {
	out := []string{"", "a", "\x00", "\xff\xfe", "é", "\x00\x01a", "hora"}
	for _, n := range []int{127, 128, 255, 256, 257, 65535, 65536} {
		out = append(out, strings.Repeat("xyz\x00\xff", n)[:n])
	}
	return out
}

func none(t *testing.T, what string, b []byte) {
	t.Helper()
	if n, k := code.Get(b); n != 0 || k != 0 {
		t.Errorf("Get of %s, %x: %d, %d", what, b, n, k)
	}
}

func noText(t *testing.T, what string, b []byte, most int) {
	t.Helper()
	if s, k := code.Cut(b, most); s != "" || k != 0 {
		t.Errorf("Cut of %s, %d at most: %.20q, %d", what, most, s, k)
	}
}

func TestPut(t *testing.T) {
	for _, c := range []struct {
		n    int64
		want string
	}{
		{-300, "\x82\x01\x2c"},
		{300, "\x02\x01\x2c"},
		{0, "\x00"},
		{1, "\x01\x01"},
		{-1, "\x81\x01"},
		{127, "\x01\x7f"},
		{128, "\x01\x80"},
		{-128, "\x81\x80"},
		{255, "\x01\xff"},
		{-255, "\x81\xff"},
		{256, "\x02\x01\x00"},
		{-256, "\x82\x01\x00"},
		{1 << 56, "\x08\x01\x00\x00\x00\x00\x00\x00\x00"},
		{1<<56 - 1, "\x07\xff\xff\xff\xff\xff\xff\xff"},
		{math.MaxInt64, "\x08\x7f\xff\xff\xff\xff\xff\xff\xff"},
		{-math.MaxInt64, "\x88\x7f\xff\xff\xff\xff\xff\xff\xff"},
		{math.MinInt64, "\x88\x80\x00\x00\x00\x00\x00\x00\x00"},
	} {
		if got := code.Put(nil, c.n); string(got) != c.want {
			t.Errorf("Put(nothing, %d): %x, want %x", c.n, got, c.want)
		}
	}
	for _, n := range numbers() {
		for _, b := range fronts() {
			want := slices.Concat(b, written(n))
			if got := code.Put(b, n); !slices.Equal(got, want) {
				t.Errorf("Put(%x, %d): %x, want %x", b, n, got, want)
			}
		}
	}
}

func TestGet(t *testing.T) {
	for _, n := range numbers() {
		w := written(n)
		for _, behind := range [][]byte{nil, {0}, {1}, {0x80}, {0xff, 0xff}, make([]byte, 20)} {
			if got, k := code.Get(slices.Concat(w, behind)); got != n || k != len(w) {
				t.Errorf("Get of %x ahead of %x: %d, %d, want %d, %d", w, behind, got, k, n, len(w))
			}
		}
	}
}

// TestGetCut: each number, cut off at each place, is none; also where the rest stands in the spare room.
func TestGetCut(t *testing.T) {
	none(t, "nil", nil)
	none(t, "nothing", []byte{})
	for _, n := range numbers() {
		w := written(n)
		for k := range w {
			none(t, "a beginning with its end in the spare room", w[:k])
			none(t, "a beginning", slices.Clip(slices.Clone(w[:k])))
		}
	}
}

// TestGetNotShortest: a number with bytes of 0 ahead is none, of any length; nor is 0 below 0.
func TestGetNotShortest(t *testing.T) {
	none(t, "0 of one byte", []byte{0x01, 0x00})
	none(t, "0 below 0", []byte{0x80})
	none(t, "0 below 0, with more behind", []byte{0x80, 0x01, 0x01})
	none(t, "0 below 0, of one byte", []byte{0x81, 0x00})
	for _, n := range numbers() {
		w := written(n)
		for zeros := 1; len(w)+zeros <= 12; zeros++ {
			b := slices.Concat([]byte{w[0] + byte(zeros)}, make([]byte, zeros), w[1:])
			none(t, "a number with 0 ahead", b)
		}
	}
}

// TestGetTooGreat: eight bytes hold more than an int64 does, on both sides, and more bytes than eight are none.
func TestGetTooGreat(t *testing.T) {
	for _, b := range []string{
		"\x08\x80\x00\x00\x00\x00\x00\x00\x00",
		"\x08\x80\x00\x00\x00\x00\x00\x00\x01",
		"\x08\xff\xff\xff\xff\xff\xff\xff\xff",
		"\x88\x80\x00\x00\x00\x00\x00\x00\x01",
		"\x88\x81\x00\x00\x00\x00\x00\x00\x00",
		"\x88\xff\xff\xff\xff\xff\xff\xff\xff",
	} {
		none(t, "a number too great", []byte(b))
	}
	for first := range 256 {
		if first&0x7f <= 8 {
			continue
		}
		for _, fill := range []byte{0, 1, 0xff} {
			row := append([]byte{byte(first)}, slices.Repeat([]byte{fill}, 300)...)
			none(t, "a first byte that tells of too many", row)
			none(t, "a first byte that tells of too many, as many behind", row[:1+first&0x7f])
		}
	}
}

// TestGetEach: each row of two bytes, and longer ones of the bytes that an edge turns on.
func TestGetEach(t *testing.T) {
	for x := range 1 << 16 {
		same(t, []byte{byte(x >> 8)})
		same(t, []byte{byte(x >> 8), byte(x)})
	}
	marks := []byte{0x00, 0x01, 0x02, 0x03, 0x7f, 0x80, 0x81, 0x82, 0x83, 0xff}
	for x := range 10000 {
		row := []byte{marks[x%10], marks[x/10%10], marks[x/100%10], marks[x/1000]}
		same(t, row[:3])
		same(t, row)
	}
	for _, first := range []byte{0x07, 0x08, 0x09, 0x87, 0x88, 0x89} {
		for _, second := range marks {
			for _, last := range marks {
				row := []byte{first, second, 0, 0, 0, 0, 0, 0, last, 0xff}
				for n := 7; n <= len(row); n++ {
					same(t, row[:n])
				}
			}
		}
	}
}

func same(t *testing.T, b []byte) {
	t.Helper()
	n, k := code.Get(b)
	if wantN, wantK := found(b); n != wantN || k != wantK {
		t.Errorf("Get of %x: %d, %d, want %d, %d", b, n, k, wantN, wantK)
	}
}

func TestText(t *testing.T) {
	for _, s := range texts() {
		for _, b := range fronts() {
			want := slices.Concat(b, written(int64(len(s))), []byte(s))
			if got := code.Text(b, s); !slices.Equal(got, want) {
				t.Errorf("Text(%x, %.20q) of %d bytes: %.20x", b, s, len(s), got)
			}
		}
	}
	if got := code.Text(nil, "ab"); string(got) != "\x01\x02ab" {
		t.Errorf("Text(nothing, ab): %x", got)
	}
}

func TestCut(t *testing.T) {
	for _, s := range texts() {
		w := slices.Concat(written(int64(len(s))), []byte(s))
		for _, behind := range []string{"", "\x00", "more"} {
			for _, most := range []int{len(s), len(s) + 1, math.MaxInt} {
				got, k := code.Cut(append(slices.Clone(w), behind...), most)
				if got != s || k != len(w) {
					t.Errorf("Cut of %.20q, of %d bytes, %d at most: %.20q, %d", s, len(s), most, got, k)
				}
			}
		}
	}
}

// TestCutNothing: the text of no bytes is there, and takes one byte.
func TestCutNothing(t *testing.T) {
	for _, most := range []int{0, 1, math.MaxInt} {
		if s, k := code.Cut([]byte{0}, most); s != "" || k != 1 {
			t.Errorf("Cut of no bytes, %d at most: %q, %d", most, s, k)
		}
	}
}

func TestCutLonger(t *testing.T) {
	for _, s := range texts() {
		b := code.Text(nil, s)
		for _, most := range []int{len(s) - 1, len(s) / 2, 0, -1, math.MinInt} {
			if most < len(s) {
				noText(t, "a text longer than it may be", b, most)
			}
		}
	}
}

func TestCutShort(t *testing.T) {
	for _, s := range []string{"a", "hora", strings.Repeat("x", 255), strings.Repeat("x", 256)} {
		b := code.Text(nil, s)
		for n := range b {
			for _, most := range []int{len(s), math.MaxInt} {
				noText(t, "a beginning with its end in the spare room", b[:n], most)
				noText(t, "a beginning", slices.Clip(slices.Clone(b[:n])), most)
			}
		}
	}
}

func TestCutWrong(t *testing.T) {
	row := "abcdefghijklmnopqrstuvwxyz"
	for _, front := range []string{
		"\x01\x00",
		"\x02\x00\x01",
		"\x80",
		"\x81\x00",
		"\x81\x01",
		"\x82\x00\x01",
		"\x09\x00\x00\x00\x00\x00\x00\x00\x00\x01",
		"\x08\x7f\xff\xff\xff\xff\xff\xff\xff",
		"\x08\x7f\xff\xff\xff\xff\xff\xff\xf6",
		"\x08\x80\x00\x00\x00\x00\x00\x00\x00",
		"\x08\xff\xff\xff\xff\xff\xff\xff\xff",
		"\x88\x7f\xff\xff\xff\xff\xff\xff\xff",
		"\x88\x80\x00\x00\x00\x00\x00\x00\x00",
		"\x05\x01\x00\x00\x00\x01",
		"\x04\x80\x00\x00\x01",
		"\x7f",
		"\xff",
	} {
		for _, most := range []int{0, 1, 26, math.MaxInt32, math.MaxInt} {
			noText(t, "a wrong length", []byte(front+row), most)
		}
	}
	for _, n := range []int64{-1, -26, -256, math.MinInt64, 27, math.MaxInt64} {
		noText(t, "a length that no row has", append(written(n), row...), math.MaxInt)
	}
}

func TestFlag(t *testing.T) {
	for _, b := range fronts() {
		if got := code.Flag(b, true); !slices.Equal(got, slices.Concat(b, []byte{1, 1})) {
			t.Errorf("Flag(%x, true): %x", b, got)
		}
		if got := code.Flag(b, false); !slices.Equal(got, slices.Concat(b, []byte{0})) {
			t.Errorf("Flag(%x, false): %x", b, got)
		}
	}
}

// TestRow: what is written one behind the other is read again one behind the other, to the end.
func TestRow(t *testing.T) {
	var b []byte
	for i, n := range numbers() {
		b = code.Flag(code.Text(code.Put(b, n), texts()[i%7]), i%3 == 0)
	}
	for i, n := range numbers() {
		got, k := code.Get(b)
		if got != n || k == 0 {
			t.Fatalf("number %d: %d, %d, want %d", i, got, k, n)
		}
		b = b[k:]
		s, k := code.Cut(b, 12)
		if s != texts()[i%7] || k == 0 {
			t.Fatalf("text %d: %q, %d", i, s, k)
		}
		b = b[k:]
		f, k := code.Get(b)
		if (f == 1) != (i%3 == 0) || f>>1 != 0 || k == 0 {
			t.Fatalf("flag %d: %d, %d", i, f, k)
		}
		b = b[k:]
	}
	if len(b) > 0 {
		t.Errorf("behind the last one: %x", b)
	}
}

// roomy is b with room behind its length, filled with mark.
func roomy(b []byte, mark byte) []byte {
	out := slices.Concat(b, slices.Repeat([]byte{mark}, 600))
	return out[:len(b)]
}

func whole(b []byte) []byte {
	return b[:cap(b)]
}

func scribble(b []byte) {
	for i := range b {
		b[i] ^= 0xff
	}
}

type call struct {
	name string
	of   func([]byte) []byte
}

// writers: each call that writes, with shorter and longer pieces.
func writers() []call {
	var out []call
	for _, n := range []int64{0, 1, -300, math.MaxInt64, math.MinInt64} {
		out = append(out, call{"Put", func(b []byte) []byte { return code.Put(b, n) }})
	}
	for _, s := range []string{"", "hora", strings.Repeat("x", 300)} {
		out = append(out, call{"Text", func(b []byte) []byte { return code.Text(b, s) }})
	}
	for _, f := range []bool{false, true} {
		out = append(out, call{"Flag", func(b []byte) []byte { return code.Flag(b, f) }})
	}
	return out
}

// TestWritersApart: R2, R5: the argument and its spare room stay as they were, and an answer shares no memory with it or with another answer.
func TestWritersApart(t *testing.T) {
	for _, c := range writers() {
		for _, b := range fronts() {
			for _, mark := range []byte{0, 0xa5} {
				apart(t, c, roomy(b, mark), slices.Clip(slices.Clone(b)))
			}
		}
	}
}

func apart(t *testing.T, c call, in, tight []byte) {
	t.Helper()
	was := slices.Clone(whole(in))
	first, second := c.of(in), c.of(in)
	if !slices.Equal(whole(in), was) {
		t.Errorf("%s changed its argument of %d bytes, or the room behind", c.name, len(in))
	}
	if !slices.Equal(first, c.of(tight)) {
		t.Errorf("%s hangs on the room behind its argument of %d bytes", c.name, len(in))
	}
	wasSecond := slices.Clone(whole(second))
	scribble(whole(first))
	if !slices.Equal(whole(in), was) {
		t.Errorf("%s: the answer is the memory of its argument of %d bytes", c.name, len(in))
	}
	scribble(whole(in))
	if !slices.Equal(whole(second), wasSecond) {
		t.Errorf("%s: the answer shares memory, argument of %d bytes", c.name, len(in))
	}
	if third := c.of(tight); !slices.Equal(third, second) {
		t.Errorf("%s: another answer the third time, argument of %d bytes", c.name, len(in))
	}
}

// TestReadersApart: R2: Get and Cut change nothing, and a text that was cut stays when the bytes do not.
func TestReadersApart(t *testing.T) {
	for _, s := range texts() {
		for _, mark := range []byte{0, 1, 0xa5} {
			in := roomy(code.Text(nil, s), mark)
			was := slices.Clone(whole(in))
			got, k := code.Cut(in, len(s))
			n, _ := code.Get(in)
			code.Cut(in, len(s)-1)
			code.Cut(in[:len(in)-1], len(s))
			if !slices.Equal(whole(in), was) {
				t.Errorf("Get, Cut changed a text of %d bytes, or the room behind", len(s))
			}
			scribble(whole(in))
			if got != s || k != len(in) || n != int64(len(s)) {
				t.Errorf("Cut, Get of a text of %d bytes with room of %#x: %.20q, %d, %d", len(s), mark, got, k, n)
			}
		}
	}
}
