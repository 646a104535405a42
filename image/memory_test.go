package image_test

import (
	"math"
	"reflect"
	"slices"
	"strings"
	"testing"

	"horarium/api"
	"horarium/config"
	"horarium/image"
	"horarium/sample"
)

// TestNotChanged: R2, R5: the module that is handed in stays, and its spare room is neither read nor written.
func TestNotChanged(t *testing.T) {
	for _, c := range modules(5, 300) {
		in := sample.RoomyModule(c, full())
		was := sample.WholeModule(in)
		if b := back(t, in); !slices.Equal(b, written(c)) {
			t.Fatalf("Bytes(%s) hangs on room", brief(c))
		}
		// What is cut off, though it stands in the room still, is not there.
		for _, cut := range []func(c *api.Config){
			func(c *api.Config) { c.Parts = c.Parts[:len(c.Parts)/2] }, func(c *api.Config) { c.Chans = c.Chans[:len(c.Chans)/2] }, func(c *api.Config) { c.Tables = c.Tables[:len(c.Tables)/2] }, func(c *api.Config) { c.Tables = c.Tables[:1] },
		} {
			less := in
			cut(&less)
			writes(t, less)
		}
		if !reflect.DeepEqual(sample.WholeModule(in), was) {
			t.Fatalf("%s was changed", brief(c))
		}
	}
}

// TestBytesNotChanged: R2, R5: the bytes that are handed in stay, and their spare room is neither read nor written.
func TestBytesNotChanged(t *testing.T) {
	for _, c := range modules(6, 100) {
		b := written(c)
		for _, more := range [][]byte{nil, make([]byte, 9), b, {255, 255, 255, 255, 255, 255, 255, 255}} {
			in := sample.Roomy(b, more)
			was := slices.Clone(sample.Whole(in))
			is(t, in, c, api.OK)
			none(t, in[:len(in)-1], api.ErrSum)
			none(t, in[:len(in)-4], api.ErrSum)
			none(t, in[:0], api.ErrSum)
			if !slices.Equal(sample.Whole(in), was) {
				t.Fatalf("%s was changed", brief(b))
			}
		}
		// Bytes that go on as an image, of which the last ones stand in the room, are none.
		long := sample.Roomy(b[:len(b)/2], b[len(b)/2:])
		none(t, long, api.ErrSum)
	}
}

// marked puts a number of its own into each place of all lists of l, their room included, and tells whether each stands there still at the end: of lists that share a place it does not.
func marked(l ...api.Config) bool {
	var procs [][]api.Proc
	var nodes [][]api.Node
	var chans [][]api.Chan
	for _, c := range l {
		chans = append(chans, sample.Whole(c.Chans))
		for _, x := range sample.Whole(c.Parts) {
			procs = append(procs, sample.Whole(x.Procs))
		}
		for _, x := range sample.Whole(c.Tables) {
			nodes = append(nodes, sample.Whole(x))
		}
	}
	return places(procs, func(n int) api.Proc { return api.Proc{Entry: n} }) && places(nodes, func(n int) api.Node { return api.Node{N: int64(n)} }) && places(chans, func(n int) api.Chan { return api.Chan{From: n} })
}

// places puts make's answers into each place of the lists l, and tells whether each stands there still at the end.
func places[T comparable](l [][]T, make func(n int) T) bool {
	n := 0
	for _, x := range l {
		for i := range x {
			n++
			x[i] = make(n)
		}
	}
	n = 0
	for _, x := range l {
		for i := range x {
			n++
			if x[i] != make(n) {
				return false
			}
		}
	}
	return true
}

// TestNew: R2: what Read answers is new memory: no two lists of it, nor of two answers, share any, and nothing of the bytes is kept.
func TestNew(t *testing.T) {
	for _, c := range modules(7, 300) {
		b := back(t, c)
		was := slices.Clone(b)
		x, _ := image.Read(b)
		y, _ := image.Read(b)
		clear(b)
		if !config.Same(x, c) || !config.Same(y, c) {
			t.Fatalf("Read of %s keeps the bytes", brief(was))
		}
		copy(b, was)
		if !marked(x, y) {
			t.Fatalf("lists that Read answers share memory: %s", brief(c))
		}
		for _, turned := range []api.Config{x, y} {
			clear(sample.Whole(turned.Parts))
			clear(sample.Whole(turned.Tables))
		}
		if !slices.Equal(b, was) {
			t.Fatalf("Read answers memory of the bytes: %s", brief(c))
		}
		is(t, b, c, api.OK)
	}
}

// TestNewBytes: R2: what Bytes answers is new memory, its room included; what is turned in the module behind the call turns nothing of it.
func TestNewBytes(t *testing.T) {
	for _, c := range modules(8, 300) {
		in := config.Copy(c)
		a, _ := image.Bytes(in)
		b, _ := image.Bytes(in)
		was := slices.Clone(b)
		room := sample.Whole(a)
		for i := range room {
			room[i] = 99
		}
		marked(in)
		clear(in.Parts)
		clear(in.Tables)
		if !slices.Equal(b, was) || !slices.Equal(b, written(c)) {
			t.Fatalf("Bytes(%s) hangs on other memory", brief(c))
		}
		back(t, c)
	}
}

// TestAlone: R2, R4: an answer hangs on what is given alone, in whatever order it is asked, also where other bytes stand in the same memory.
func TestAlone(t *testing.T) {
	draw := dice(9)
	all := modules(10, 60)
	room := make([]byte, 0, 1<<13)
	for range 3000 {
		i := draw(len(all))
		switch draw(5) {
		case 0:
			writes(t, all[i])
		case 1:
			room = append(room[:0], written(all[i])...)
			is(t, room, all[i], api.OK)
		case 2:
			room = append(room[:0], written(all[i])...)
			room[draw(len(room))] ^= byte(1 << draw(8))
			is(t, room, api.Config{}, api.ErrSum)
		case 3:
			is(t, sealed(written(all[i])), api.Config{}, api.ErrForm)
		default:
			bad := config.Copy(all[i])
			sample.Muddle(draw, &bad)
			writes(t, bad)
		}
	}
}

// TestNothing: R4: nil and empty lists mean the same, handed in and answered.
func TestNothing(t *testing.T) {
	c := with(func(c *api.Config) { c.Chans = nil })
	b := back(t, c)
	c.Chans = []api.Chan{}
	if !slices.Equal(back(t, c), b) {
		t.Error("no channels are not the same as nil")
	}
	for _, c := range []api.Config{{}, {Parts: []api.Part{}, Chans: []api.Chan{}, Tables: [][]api.Node{}}, {Tables: [][]api.Node{nil}}, {Tables: [][]api.Node{{}}}, {Parts: []api.Part{{}}}, {Parts: []api.Part{{Procs: []api.Proc{}}}}, sample.RoomyModule(api.Config{}, full())} {
		if b, why := writes(t, c); why != api.ErrLong || len(b) > 0 {
			t.Errorf("Bytes(%s): %x, %d", brief(c), b, int(why))
		}
	}
	for _, f := range []func(c *api.Config){func(c *api.Config) { c.Parts[1].Procs = nil }, func(c *api.Config) { c.Parts[1].Procs = []api.Proc{} }, func(c *api.Config) { c.Tables[1] = nil }, func(c *api.Config) { c.Tables[1] = []api.Node{} }} {
		writes(t, with(f))
		none(t, written(with(f)), api.ErrForm)
	}
}

// TestEvery: R1: a call ends, whatever bytes it is given: of each length, drawn of all bytes and of those that images have, with their sum and without.
func TestEvery(t *testing.T) {
	draw := dice(11)
	for _, likely := range [][]byte{nil, {0}, {1}, {0, 1}, {0, 1, 1, 2, 3, 4}, {1, 1, 1, 6}, {128, 129, 0, 1}, {255}, {8, 127, 255}, {1, 'a'}, []byte("HORA\x01\x02\x00")} {
		for n := range 400 {
			b := make([]byte, n)
			for i := range b {
				b[i] = byte(draw(256))
				if likely != nil {
					b[i] = likely[draw(len(likely))]
				}
			}
			agree(t, b)
			agree(t, sealed(b))
			agree(t, sealed([]byte("HORA"), b))
			agree(t, sealed([]byte("HORA"), []byte{1, 1, 1, 1, 'a', 0, 0, 0, 0, 1, 1}, b))
		}
	}
}

// TestGreat: R1: a great many bytes, and a great many things in a module.
func TestGreat(t *testing.T) {
	const many = 1 << 20
	body := slices.Concat(things(full())...)
	for _, l := range [][]byte{{0}, {1}, {255}, {1, 6}, {8, 127, 255, 255, 255, 255, 255, 255, 255}, body} {
		long := slices.Repeat(l, many/4/len(l))
		none(t, long, api.ErrSum)
		none(t, sealed(long), api.ErrForm)
		none(t, sealed([]byte("HORA"), long), api.ErrForm)
		none(t, sealed(body, long), api.ErrForm)
	}
	c := full()
	for i, x := range []api.Config{
		{Parts: slices.Repeat(c.Parts, many/6)}, {Parts: c.Parts, Chans: slices.Repeat(c.Chans, many/8), Tables: c.Tables}, {Parts: c.Parts, Tables: slices.Repeat(c.Tables, many/9)},
		with(func(c *api.Config) { c.Parts[3].Procs = make([]api.Proc, many) }), with(func(c *api.Config) { c.Parts[3].Name = strings.Repeat("n", many) }), with(func(c *api.Config) { c.Tables[1] = sample.Wide(many, window(0, 1)) }), with(func(c *api.Config) { c.Tables[1] = sample.Chain(many, math.MaxInt64, window(0, math.MaxInt64)) }),
	} {
		if b, why := image.Bytes(x); why != config.Right(x) || why == api.OK || len(b) > 0 || image.Size(x) != 0 {
			t.Errorf("Bytes of great %d: %d bytes, %d", i, len(b), int(why))
		}
	}
}

// TestOdd: R1: numbers of any size in a module, wherever one stands; its bytes, sealed, are an image just where it may be.
func TestOdd(t *testing.T) {
	for _, n := range append(sample.Odd(), -1, 0, 1, 6, 9, 127, 128, 256, 300, 4096, 4097, 1<<40-1, 1<<40) {
		for p := range 6 {
			for _, f := range []func(x *api.Part){func(x *api.Part) { x.Budget = n }, func(x *api.Part) { x.Period = n }, func(x *api.Part) { x.Budget, x.Period = n, n }, func(x *api.Part) { x.Procs[0].Entry = int(n) }, func(x *api.Part) { x.Procs[0].Prio = int(n) }, func(x *api.Part) { x.Health[p%5] = int(n) }} {
				odd(t, func(c *api.Config) { f(&c.Parts[p]) })
			}
		}
		for i := range 8 {
			for _, f := range []func(x *api.Chan){func(x *api.Chan) { x.From = int(n) }, func(x *api.Chan) { x.To = int(n) }, func(x *api.Chan) { x.Cap = int(n) }, func(x *api.Chan) { x.Max = uint32(n) }, func(x *api.Chan) { x.Late = n }} {
				odd(t, func(c *api.Config) { f(&c.Chans[i]) })
			}
		}
		for at := range 9 {
			for _, f := range []func(x *api.Node){func(x *api.Node) { x.Kind = int(n) }, func(x *api.Node) { x.Part = int(n) }, func(x *api.Node) { x.N = n }} {
				odd(t, func(c *api.Config) { f(&c.Tables[1][at]) })
			}
		}
	}
}

// odd: of a full module of which something was turned, Bytes, Size and Read answer as it may be or not.
func odd(t *testing.T, f func(c *api.Config)) {
	t.Helper()
	c := with(f)
	if _, why := writes(t, c); why == api.OK {
		back(t, c)
	} else {
		none(t, written(c), api.ErrForm)
	}
}
