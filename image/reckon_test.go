package image_test

import (
	"fmt"
	"hash/crc32"
	"math/big"
	"math/bits"
	"math/rand/v2"
	"reflect"
	"slices"
	"testing"

	"horarium/api"
	"horarium/config"
	"horarium/image"
	"horarium/sample"
)

// Short names of what sample makes.
var (
	window, idle, seq, times = sample.Window, sample.Idle, sample.Seq, sample.Times
	full, bounds             = sample.Full, sample.Bounds
)

// spell is n as bytes, by way of numbers of any size.
func spell(n int64) []byte {
	x := big.NewInt(n)
	head := byte(len(x.Bytes()))
	if x.Sign() < 0 {
		head += 128
	}
	return append([]byte{head}, x.Bytes()...)
}

// check is the sum of b: that which the library has goes bit by bit the other way round.
func check(b []byte) []byte {
	turned := make([]byte, len(b))
	for i, x := range b {
		turned[i] = bits.Reverse8(x)
	}
	return big.NewInt(1<<32 + int64(bits.Reverse32(crc32.ChecksumIEEE(turned)))).Bytes()[1:]
}

// sealed is all of l, one behind the other, with its sum.
func sealed(l ...[]byte) []byte {
	b := slices.Concat(l...)
	return append(b, check(b)...)
}

// pieces are the things of v as they stand in an image, thing by thing, in the order in which package api names them: of a list how many first, of a text how long it is.
func pieces(v reflect.Value) [][]byte {
	var out [][]byte
	switch v.Kind() {
	case reflect.Struct:
		for i := range v.NumField() {
			out = append(out, pieces(v.Field(i))...)
		}
	case reflect.Slice, reflect.Array:
		if v.Kind() == reflect.Slice {
			out = append(out, spell(int64(v.Len())))
		}
		for i := range v.Len() {
			out = append(out, pieces(v.Index(i))...)
		}
	case reflect.String:
		out = append(out, append(spell(int64(v.Len())), v.String()...))
	case reflect.Bool:
		out = append(out, map[bool][]byte{true: {1, 1}, false: {0}}[v.Bool()])
	case reflect.Uint32:
		out = append(out, spell(int64(v.Uint())))
	default:
		out = append(out, spell(v.Int()))
	}
	return out
}

// things are all that stands in the image of c, whether it may be or not, ahead of its sum.
func things(c api.Config) [][]byte {
	return append([][]byte{[]byte("HORA")}, pieces(reflect.ValueOf(c))...)
}

// written is the image of c, whether it may be or not.
func written(c api.Config) []byte {
	return sealed(things(c)...)
}

// finder goes through bytes as pieces writes them, and holds each thing against how it is written.
type finder struct {
	rest []byte
	ok   bool
}

// take is a number.
func (f *finder) take() int64 {
	if len(f.rest) == 0 || f.rest[0]&127 > 8 || int(f.rest[0]&127) >= len(f.rest) {
		f.rest, f.ok = nil, false
		return 0
	}
	k := 1 + int(f.rest[0]&127)
	x := new(big.Int).SetBytes(f.rest[1:k])
	if f.rest[0] > 127 {
		x.Neg(x)
	}
	if !x.IsInt64() || string(spell(x.Int64())) != string(f.rest[:k]) {
		f.rest, f.ok = nil, false
		return 0
	}
	f.rest = f.rest[k:]
	return x.Int64()
}

// long is how many things follow, or how long a text is: each takes a byte and more.
func (f *finder) long() int {
	n := f.take()
	if n < 0 || n > int64(len(f.rest)) {
		f.rest, f.ok = nil, false
		return 0
	}
	return int(n)
}

// fill makes v what the bytes tell.
func (f *finder) fill(v reflect.Value) {
	switch v.Kind() {
	case reflect.Struct:
		for i := range v.NumField() {
			f.fill(v.Field(i))
		}
	case reflect.Slice, reflect.Array:
		if v.Kind() == reflect.Slice {
			n := f.long()
			v.Set(reflect.MakeSlice(v.Type(), n, n))
		}
		for i := range v.Len() {
			f.fill(v.Index(i))
		}
	case reflect.String:
		n := f.long()
		v.SetString(string(f.rest[:n]))
		f.rest = f.rest[n:]
	case reflect.Bool:
		n := f.take()
		v.SetBool(n == 1)
		f.ok = f.ok && n >= 0 && n <= 1
	case reflect.Uint32:
		n := f.take()
		v.SetUint(uint64(uint32(n)))
		f.ok = f.ok && n >= 0 && n>>32 == 0
	default:
		v.SetInt(f.take())
	}
}

// found is what Read must answer of b.
func found(b []byte) (api.Config, api.Errno) {
	end := len(b) - 4
	if end < 0 || string(check(b[:end])) != string(b[end:]) {
		return api.Config{}, api.ErrSum
	}
	if end < 4 || string(b[:4]) != "HORA" {
		return api.Config{}, api.ErrForm
	}
	var c api.Config
	f := &finder{b[4:end], true}
	f.fill(reflect.ValueOf(&c).Elem())
	if !f.ok || len(f.rest) > 0 || config.Right(c) != api.OK {
		return api.Config{}, api.ErrForm
	}
	return c, api.OK
}

// brief is x as a text, or its beginning, if it is long.
func brief(x any) string {
	s := fmt.Sprintf("%+v", x)
	return s[:min(len(s), 700)]
}

// writes: Bytes and Size answer of c what is reckoned; that.
func writes(t *testing.T, c api.Config) ([]byte, api.Errno) {
	t.Helper()
	var want []byte
	why := config.Right(c)
	if why == api.OK {
		want = written(c)
	}
	b, no := image.Bytes(c)
	if no != why || !slices.Equal(b, want) {
		t.Fatalf("Bytes(%s): %x, %d, want %x, %d", brief(c), b, int(no), want, int(why))
	}
	if n := image.Size(c); n != len(want) {
		t.Fatalf("Size(%s): %d, want %d", brief(c), n, len(want))
	}
	return b, why
}

// is: Read answers of b that it is c, or why it is none.
func is(t *testing.T, b []byte, c api.Config, why api.Errno) {
	t.Helper()
	if got, no := image.Read(b); no != why || !config.Same(got, c) {
		t.Fatalf("Read(%s): %s, %d, want %s, %d", brief(b), brief(got), int(no), brief(c), int(why))
	}
}

// none: Read answers why b is none, and the second reckoning tells the same.
func none(t *testing.T, b []byte, why api.Errno) {
	t.Helper()
	is(t, b, api.Config{}, why)
	if _, no := found(b); no != why {
		t.Fatalf("of %s it is reckoned %d, want %d", brief(b), int(no), int(why))
	}
}

// agree: Read answers of b what the second reckoning tells; the refusal.
func agree(t *testing.T, b []byte) api.Errno {
	t.Helper()
	c, why := found(b)
	is(t, b, c, why)
	return why
}

// back: of c, which may be, there is an image, and what Read answers of it is c.
func back(t *testing.T, c api.Config) []byte {
	t.Helper()
	b, why := writes(t, c)
	if why != api.OK {
		t.Fatalf("%s may not be: %d", brief(c), int(why))
	}
	is(t, b, c, api.OK)
	return b
}

// with is a full module, of which something was turned.
func with(f func(c *api.Config)) api.Config {
	c := full()
	f(&c)
	return c
}

// dice draws numbers below another one.
func dice(seed uint64) func(below int) int {
	return rand.New(rand.NewPCG(14, seed)).IntN
}

// modules are right modules of all kinds.
func modules(seed uint64, many int) []api.Config {
	return append(bounds(), sample.Rights(dice(seed), many)...)
}
