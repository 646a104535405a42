package image_test

import (
	"math"
	"slices"
	"strings"
	"testing"

	"horarium/api"
	"horarium/config"
	"horarium/image"
	"horarium/sample"
)

// plain is a small module, and all that stands in its image, number by number, as the chapter tells it.
func plain() (api.Config, []byte) {
	c := api.Config{
		Parts: []api.Part{
			{Name: "a", Budget: 1, Period: 300, Sched: true, Procs: []api.Proc{{Entry: 511, Prio: 255}, {Entry: 4}}, Health: [5]int{2, 1, 0, 1, 2}},
			{Name: "b_9", Stop: true, Procs: []api.Proc{{Prio: 128}}, Health: [5]int{0, 0, 1, 0, 0}},
		},
		Chans:  []api.Chan{{From: 1, To: 0, Queue: true, Cap: 3, Max: math.MaxUint32, Late: 298}, {From: 0, To: 1, Max: 127}},
		Tables: [][]api.Node{seq(window(0, 2), idle(128), window(1, 170)), times(2, seq(window(1, 149), window(0, 1)))},
	}
	return c, slices.Concat(
		[]byte("HORA"),
		[]byte{1, 2},
		[]byte{1, 1, 'a', 1, 1, 2, 1, 44, 1, 1, 0}, []byte{1, 2, 2, 1, 255, 1, 255, 1, 4, 0}, []byte{1, 2, 1, 1, 0, 1, 1, 1, 2},
		[]byte{1, 3, 'b', '_', '9', 0, 0, 0, 1, 1}, []byte{1, 1, 0, 1, 128}, []byte{0, 0, 1, 1, 0, 0},
		[]byte{1, 2},
		[]byte{1, 1, 0, 1, 1, 1, 3, 4, 255, 255, 255, 255, 2, 1, 42},
		[]byte{0, 1, 1, 0, 0, 1, 127, 0},
		[]byte{1, 2},
		[]byte{1, 4}, []byte{1, 3, 0, 1, 3}, []byte{1, 1, 0, 1, 2}, []byte{1, 2, 0, 1, 128}, []byte{1, 1, 1, 1, 1, 170},
		[]byte{1, 4}, []byte{1, 4, 0, 1, 2}, []byte{1, 3, 0, 1, 2}, []byte{1, 1, 1, 1, 1, 149}, []byte{1, 1, 0, 1, 1},
	)
}

func TestExamples(t *testing.T) {
	is(t, nil, api.Config{}, api.ErrSum)
	for _, c := range sample.Slippery() {
		b, why := image.Bytes(c)
		if d, no := image.Read(b); why != api.OK || no != api.OK || !config.Same(c, d) {
			t.Errorf("Read(Bytes(c)): %d, %d", int(why), int(no))
		}
	}
	if n := image.Size(api.Config{}); n != 0 {
		t.Errorf("Size of a zero Config: %d", n)
	}
}

// TestBytes: P14.1: each byte of an image.
func TestBytes(t *testing.T) {
	c, body := plain()
	b, why := image.Bytes(c)
	if why != api.OK || !slices.Equal(b, sealed(body)) || image.Size(c) != len(body)+4 {
		t.Errorf("Bytes: %v, %d, want %v", b, int(why), sealed(body))
	}
	if !slices.Equal(b, back(t, c)) {
		t.Error("the second reckoning tells another image")
	}
	one := api.Config{Parts: []api.Part{{Name: "m", Procs: []api.Proc{{}}}}, Tables: [][]api.Node{idle(1)}}
	want := sealed([]byte("HORA"), []byte{1, 1, 1, 1, 'm', 0, 0, 0, 0, 1, 1, 0, 0, 0, 0, 0, 0, 0}, []byte{0}, []byte{1, 1, 1, 1, 1, 2, 0, 1, 1})
	if b := back(t, one); !slices.Equal(b, want) {
		t.Errorf("Bytes: %v, want %v", b, want)
	}
}

// TestBytesOne: P14.1: each thing of a module turned alone, so that it still may be, stands where it must.
func TestBytesOne(t *testing.T) {
	was, _ := plain()
	first, often := back(t, was), 0
	turn := func(f func(c *api.Config)) {
		c := config.Copy(was)
		f(&c)
		if b := back(t, c); slices.Equal(b, first) && !config.Same(c, was) {
			t.Errorf("%s has the image of another one", brief(c))
		}
		often++
	}
	for p := range was.Parts {
		for _, s := range []string{"x", "z9_", "twelve_chars"} {
			turn(func(c *api.Config) { c.Parts[p].Name = s })
		}
		for _, f := range []func(x *api.Part){func(x *api.Part) { x.Sched = !x.Sched }, func(x *api.Part) { x.Stop = !x.Stop }, func(x *api.Part) { x.Sched, x.Stop = x.Stop, x.Sched }, func(x *api.Part) { x.Budget, x.Period = 0, 0 }, func(x *api.Part) { x.Budget, x.Period = 1, 300 }, func(x *api.Part) { x.Budget, x.Period = 2, 300 }} {
			turn(func(c *api.Config) { f(&c.Parts[p]) })
		}
		for i := range 5 {
			for action := range 3 {
				turn(func(c *api.Config) { c.Parts[p].Health[i] = action })
			}
		}
		for i := range was.Parts[p].Procs {
			for _, n := range []int{0, 1, 127, 128, 254, 255} {
				turn(func(c *api.Config) { c.Parts[p].Procs[i].Prio = n })
				turn(func(c *api.Config) { c.Parts[p].Procs[i].Entry = 2 * n })
				turn(func(c *api.Config) { c.Parts[p].Procs[i].Entry = 2*n + 1 })
			}
		}
		turn(func(c *api.Config) { c.Parts[p].Procs = make([]api.Proc, 3) })
	}
	for i := range was.Chans {
		for n := range 8 {
			turn(func(c *api.Config) { c.Chans[i].Queue, c.Chans[i].Cap = true, n+1 })
		}
		for k := range 33 {
			turn(func(c *api.Config) { c.Chans[i].Max = uint32(1<<k - 1) })
			turn(func(c *api.Config) { c.Chans[i].Max = uint32(1<<k - 2) })
		}
		for _, n := range []int64{0, 300, 511, 512, 4095, 4096} {
			turn(func(c *api.Config) { c.Chans[i].Late = n })
		}
		turn(func(c *api.Config) { c.Chans[i].Queue, c.Chans[i].Cap = false, 0 })
		turn(func(c *api.Config) {
			c.Chans[i].From, c.Chans[i].To, c.Chans[i].Late = was.Chans[i].To, was.Chans[i].From, 0
		})
	}
	turn(func(c *api.Config) { c.Chans[0], c.Chans[1] = c.Chans[1], c.Chans[0] })
	turn(func(c *api.Config) { c.Chans = c.Chans[:1] })
	turn(func(c *api.Config) { c.Tables = c.Tables[1:] })
	turn(func(c *api.Config) { c.Tables[0], c.Tables[1] = c.Tables[1], c.Tables[0] })
	turn(func(c *api.Config) { c.Tables[1] = times(1, c.Tables[1]) })
	turn(func(c *api.Config) { c.Tables[1][0].N = 4 })
	turn(func(c *api.Config) { c.Tables[0][1].N, c.Tables[0][2].N = 4, 126 })
	if often < 250 {
		t.Errorf("no more than %d things were turned", often)
	}
}

// TestBounds: P14.1: modules with each thing at its bounds.
func TestBounds(t *testing.T) {
	for _, c := range bounds() {
		back(t, c)
	}
	if n := image.Size(sample.Longest()); n < 2000 {
		t.Errorf("the longest image has %d bytes", n)
	}
	one := api.Config{Parts: []api.Part{{Name: "a", Procs: []api.Proc{{}}}}, Tables: [][]api.Node{window(0, 1)}}
	for _, n := range []int64{1, 126, 127, 128, 129, 254, 255, 256, 257, 511, 512, 4095, 4096} {
		one.Tables = [][]api.Node{window(0, n), idle(n), times(n, window(0, 1))}
		back(t, one)
		c := api.Config{Parts: slices.Clone(one.Parts), Tables: [][]api.Node{window(0, n)}}
		c.Parts[0].Budget, c.Parts[0].Period = n, n
		back(t, c)
	}
	for n := 1; n < 13; n++ {
		one.Parts[0].Name = strings.Repeat("z", n)
		back(t, one)
	}
	for n := 1; n < 128; n++ {
		one.Tables = [][]api.Node{sample.Wide(n, window(0, 3))}
		back(t, one)
	}
}

// TestBytesDrawn: P14.1: drawn modules, right ones and such as were muddled.
func TestBytesDrawn(t *testing.T) {
	draw, often := dice(1), map[api.Errno]int{}
	for _, c := range modules(2, 1500) {
		back(t, c)
		for range 3 {
			bad := config.Copy(c)
			for range 1 + draw(3) {
				sample.Muddle(draw, &bad)
			}
			_, why := writes(t, bad)
			often[why]++
			none := why
			if why != api.OK {
				none = api.ErrForm
			}
			if got := agree(t, written(bad)); got != none {
				t.Fatalf("Read of %s: %d", brief(bad), int(got))
			}
		}
	}
	for _, why := range []api.Errno{api.OK, api.ErrLong, api.ErrName, api.ErrPart, api.ErrChan, api.ErrForm, api.ErrTable, api.ErrLate, api.ErrShort} {
		if often[why] < 30 {
			t.Errorf("no more than %d were answered %d", often[why], int(why))
		}
	}
}

// TestRefused: P14.1, R3: of each module that may not be, its refusal, no bytes, no size; and its bytes, sealed, are no image.
func TestRefused(t *testing.T) {
	writes(t, api.Config{})
	none(t, written(api.Config{}), api.ErrForm)
	for _, c := range sample.Slippery() {
		back(t, c)
		for _, x := range sample.Slips(c) {
			bad := config.Copy(c)
			x.Make(&bad)
			if b, why := writes(t, bad); why != x.Why || why == api.OK || len(b) > 0 || image.Size(bad) != 0 {
				t.Fatalf("Bytes(%s): %d bytes, %d, want %d", brief(bad), len(b), int(why), int(x.Why))
			}
			none(t, written(bad), api.ErrForm)
		}
	}
	for _, n := range sample.Wrongs() {
		for _, l := range [][]api.Node{{n}, seq([]api.Node{n}), seq(idle(1), []api.Node{n})} {
			bad := with(func(c *api.Config) { c.Tables[2] = l })
			writes(t, bad)
			none(t, written(bad), api.ErrForm)
		}
	}
}
