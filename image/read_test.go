package image_test

import (
	"bytes"
	"math"
	"slices"
	"strings"
	"testing"

	"horarium/api"
	"horarium/config"
	"horarium/sample"
)

// TestFew: P14.1, R4: of no byte, nil or empty, and of few: no sum is there, but that of nothing, which is four noughts.
func TestFew(t *testing.T) {
	for _, b := range [][]byte{nil, {}, make([]byte, 9)[:0], written(full())[:0]} {
		none(t, b, api.ErrSum)
	}
	for x := range 256 {
		none(t, []byte{byte(x)}, api.ErrSum)
		for y := range 256 {
			none(t, []byte{byte(x), byte(y)}, api.ErrSum)
		}
	}
	for _, n := range []int{0, 1, 72, 79, 127, 128, 255} {
		for _, m := range []int{0, 1, 82, 65, 255} {
			none(t, []byte{byte(n), byte(m), byte(n)}, api.ErrSum)
			if n+m > 0 {
				none(t, []byte{byte(n), byte(m), byte(n), byte(m)}, api.ErrSum)
			}
		}
	}
	none(t, []byte("HORA"), api.ErrSum)
	none(t, make([]byte, 3), api.ErrSum)
	none(t, make([]byte, 4), api.ErrForm)
	none(t, sealed(nil), api.ErrForm)
	none(t, make([]byte, 5), api.ErrSum)
}

// TestSum: P14.1: an image whose sum is another one, or not there: that is told ahead of what else is wrong.
func TestSum(t *testing.T) {
	for _, l := range [][]byte{written(full()), written(api.Config{}), sealed([]byte("hora")), sealed(nil), sealed([]byte("HORA"), []byte{1, 7})} {
		end := len(l) - 4
		for i := range 4 {
			for x := 1; x < 256; x++ {
				b := slices.Clone(l)
				b[end+i] ^= byte(x)
				none(t, b, api.ErrSum)
			}
		}
		// The sum of nothing is the same whichever way it is turned.
		if end > 0 {
			b := slices.Clone(l)
			slices.Reverse(b[end:])
			none(t, b, api.ErrSum)
			none(t, slices.Concat(l[:end], make([]byte, 4)), api.ErrSum)
			none(t, slices.Concat(l[end:], l[:end]), api.ErrSum)
			none(t, l[:end], api.ErrSum)
		}
	}
}

// TestFront: P14.1: what does not begin with these four letters is no image.
func TestFront(t *testing.T) {
	all := things(full())
	rest := slices.Concat(all[1:]...)
	is(t, sealed([]byte("HORA"), rest), full(), api.OK)
	for _, s := range []string{"", "H", "HO", "HOR", "ORA", "HRA", "HOA", "hora", "Hora", "HORa", "hORA", "AROH", "HORAE", "HORA ", " HORA", "HORAHORA", "HORB", "IORA", "\x01\x04HORA", "\x04HORA", "H\x00O\x00R\x00A\x00"} {
		none(t, sealed([]byte(s), rest), api.ErrForm)
		none(t, sealed([]byte(s)), api.ErrForm)
	}
	for i := range 4 {
		for x := range 256 {
			front := []byte("HORA")
			if front[i] != byte(x) {
				front[i] = byte(x)
				none(t, sealed(front, rest), api.ErrForm)
			}
		}
	}
	none(t, sealed([]byte("HORA")), api.ErrForm)
	none(t, sealed(rest), api.ErrForm)
}

// TestCut: P14.1: sealed bytes that end ahead of a thing, or within one, are no image.
func TestCut(t *testing.T) {
	for _, c := range []api.Config{full(), sample.Slippery()[1], {Parts: []api.Part{{Name: "a", Procs: []api.Proc{{}}}}, Tables: [][]api.Node{idle(1)}}} {
		all := things(c)
		for i := range all {
			none(t, sealed(all[:i]...), api.ErrForm)
		}
		body := slices.Concat(all...)
		for n := range body {
			none(t, sealed(body[:n]), api.ErrForm)
		}
	}
}

// TestBehind: P14.1: sealed bytes with more behind the last thing are no image.
func TestBehind(t *testing.T) {
	for _, c := range []api.Config{full(), sample.Slippery()[1]} {
		b := written(c)
		body := b[:len(b)-4]
		for x := range 256 {
			none(t, sealed(body, []byte{byte(x)}), api.ErrForm)
			none(t, sealed(body, []byte{1, byte(x)}), api.ErrForm)
		}
		for _, more := range [][]byte{make([]byte, 2), make([]byte, 99), b[len(b)-4:], b, body, body[4:], {1, 0}, {128}, {1, 1, 1, 1, 1, 2, 0, 1, 1}} {
			none(t, sealed(body, more), api.ErrForm)
		}
	}
}

// replaced is the image of what all tells, but that x stands in the place i.
func replaced(all [][]byte, i int, x ...[]byte) []byte {
	return sealed(slices.Concat(all[:i], x, all[i+1:])...)
}

// TestLonger: P14.1: a number written longer than it needs to be, or below 0 where it is 0, wherever one stands.
func TestLonger(t *testing.T) {
	for _, c := range []api.Config{full(), sample.Slippery()[0]} {
		all := things(c)
		for i, x := range all[1:] {
			i++
			k := int(x[0])
			none(t, replaced(all, i, []byte{x[0] + 1, 0}, x[1:]), api.ErrForm)
			for n := k + 1; n < 9; n++ {
				none(t, replaced(all, i, []byte{byte(n)}, make([]byte, n-k), x[1:]), api.ErrForm)
			}
			none(t, replaced(all, i, []byte{x[0] + 128}, x[1:]), api.ErrForm)
			none(t, replaced(all, i, nil), api.ErrForm)
			for _, y := range [][]byte{{9}, {9, 0, 0, 0, 0, 0, 0, 0, 0, 1}, {8, 128, 0, 0, 0, 0, 0, 0, 0}, {8, 255, 255, 255, 255, 255, 255, 255, 255}, {136, 128, 0, 0, 0, 0, 0, 0, 1}, {127}, {255}, {16}} {
				none(t, replaced(all, i, y, x[1:]), api.ErrForm)
				none(t, replaced(all, i, y), api.ErrForm)
			}
		}
	}
}

// TestNumbers: P14.1, R1: each number and text of an image is another one: what that tells, or none.
func TestNumbers(t *testing.T) {
	some := append(sample.Odd(), -1, 0, 1, 2, 3, 4, 5, 6, 7, 8, 9, 12, 13, 127, 128, 129, 255, 256, 257, 511, 512, 4095, 4096, 4097, math.MaxUint32, 1<<32, 1<<32+1, 1<<32+2, 1<<40-1, 1<<40, -1<<32, 1-1<<32, 1<<33+7)
	often := map[api.Errno]int{}
	for _, c := range []api.Config{full(), sample.Slippery()[1]} {
		all := things(c)
		for i := range all[1:] {
			for _, n := range some {
				often[agree(t, replaced(all, 1+i, spell(n)))]++
			}
			for _, s := range []string{"", "a", "z", "A", "a b", "b_9", "twelve_chars", "thirteen_char", "a\x00", "\xff", strings.Repeat("a", 300)} {
				often[agree(t, replaced(all, 1+i, spell(int64(len(s))), []byte(s)))]++
			}
		}
	}
	if often[api.OK] < 300 || often[api.ErrForm] < 3000 || often[api.ErrSum] > 0 {
		t.Errorf("so often each was answered: %v", often)
	}
}

// numbered is where in all the number or text stands to which turn is done: what turns there is found by holding both images against each other.
func numbered(t *testing.T, c api.Config, turn func(c *api.Config)) int {
	t.Helper()
	a, b := things(c), things(turned(c, turn))
	for i := range a {
		if len(a) == len(b) && !bytes.Equal(a[i], b[i]) {
			return i
		}
	}
	t.Fatal("nothing was turned")
	return 0
}

// turned is a copy of c, of which something was turned.
func turned(c api.Config, turn func(c *api.Config)) api.Config {
	c = config.Copy(c)
	turn(&c)
	return c
}

// TestFlags: P14.1: a flag is 1 or 0, and nothing else that could be taken for one.
func TestFlags(t *testing.T) {
	c := full()
	c.Chans[5].Queue, c.Chans[5].Cap = true, 1
	all := things(c)
	for _, turn := range []func(c *api.Config){
		func(c *api.Config) { c.Parts[0].Sched = true }, func(c *api.Config) { c.Parts[0].Stop = true }, func(c *api.Config) { c.Parts[5].Stop = true }, func(c *api.Config) { c.Parts[4].Sched = false }, func(c *api.Config) { c.Parts[4].Stop = false },
		func(c *api.Config) { c.Chans[0].Queue = false }, func(c *api.Config) { c.Chans[1].Queue = true }, func(c *api.Config) { c.Chans[5].Queue = false },
	} {
		i := numbered(t, c, turn)
		for _, n := range []int64{2, 3, -1, -2, 128, 255, 256, 257, 1 << 32, 1<<32 + 1, math.MaxInt64, math.MinInt64, 1 - 1<<32} {
			none(t, replaced(all, i, spell(n)), api.ErrForm)
		}
		none(t, replaced(all, i, []byte{1, 0}), api.ErrForm)
		none(t, replaced(all, i, []byte{128}), api.ErrForm)
		none(t, replaced(all, i, []byte{129, 1}), api.ErrForm)
	}
	for p := range c.Parts {
		for _, turn := range []func(c *api.Config){func(c *api.Config) { c.Parts[p].Sched = !c.Parts[p].Sched }, func(c *api.Config) { c.Parts[p].Stop = !c.Parts[p].Stop }} {
			one := turned(c, turn)
			is(t, replaced(all, numbered(t, c, turn), things(one)[numbered(t, c, turn)]), one, api.OK)
		}
	}
}

// TestWrapped: P14.1: a number that would be the right one, if it were cut to fewer bits, is another one.
func TestWrapped(t *testing.T) {
	for _, c := range []api.Config{full(), sample.Slippery()[1]} {
		all := things(c)
		for i, x := range all[1:] {
			var n int64
			if len(x) > 1+int(x[0]) {
				continue
			}
			for _, y := range x[1:] {
				n = n<<8 | int64(y)
			}
			for _, k := range []int{32, 33, 40, 62} {
				none(t, replaced(all, 1+i, spell(n+1<<k)), api.ErrForm)
				none(t, replaced(all, 1+i, spell(n-1<<k)), api.ErrForm)
			}
			for _, k := range []int{7, 8, 9, 12, 16, 24, 31} {
				agree(t, replaced(all, 1+i, spell(n+1<<k)))
				agree(t, replaced(all, 1+i, spell(n-1<<k)))
			}
			none(t, replaced(all, 1+i, spell(n+math.MinInt64)), api.ErrForm)
		}
	}
}

// counts are all lists of a module, and how each is made another one of so many things, each of which may be there, as far as there may be so many.
func counts() map[string]func(c *api.Config, n int) {
	return map[string]func(c *api.Config, n int){
		"parts": func(c *api.Config, n int) {
			*c = api.Config{Tables: [][]api.Node{idle(1)}}
			for p := range n {
				c.Parts = append(c.Parts, api.Part{Name: string(rune('a' + p)), Procs: []api.Proc{{}}})
			}
		},
		"procs": func(c *api.Config, n int) { c.Parts[2].Procs = slices.Repeat([]api.Proc{{Entry: 3, Prio: 200}}, n) },
		"name":  func(c *api.Config, n int) { c.Parts[3].Name = strings.Repeat("n", n) },
		"chans": func(c *api.Config, n int) { c.Chans = slices.Repeat([]api.Chan{{From: 3, To: 1, Max: 77}}, n) },
		"tables": func(c *api.Config, n int) {
			c.Tables = slices.Repeat(full().Tables[:1], n)
		},
		"nodes": func(c *api.Config, n int) {
			c.Chans, c.Parts, c.Tables[1] = nil, c.Parts[:1], sample.Wide(n-1, idle(2))
			c.Tables = c.Tables[1:2]
		},
	}
}

// TestCounts: P14.1: of each list none, one, as many as there may be, one more, many more, all of them there.
func TestCounts(t *testing.T) {
	most := map[string][2]int{"parts": {1, 6}, "procs": {1, 3}, "name": {1, 12}, "chans": {0, 8}, "tables": {1, 3}, "nodes": {2, 128}}
	for name, f := range counts() {
		for _, n := range []int{1, 2, 3, 4, 5, 6, 7, 8, 9, 10, 11, 12, 13, 14, 127, 128, 129, 130, 255, 256, 257, 300, 5000} {
			c := with(func(c *api.Config) { f(c, n) })
			b := written(c)
			if ok := n >= most[name][0] && n <= most[name][1]; ok {
				is(t, b, c, api.OK)
			} else {
				none(t, b, api.ErrForm)
			}
			writes(t, c)
		}
	}
	for _, name := range []string{"parts", "procs", "name", "chans", "tables"} {
		c := with(func(c *api.Config) { counts()[name](c, 0) })
		if b := written(c); name == "chans" {
			is(t, b, c, api.OK)
		} else {
			none(t, b, api.ErrForm)
		}
	}
	none(t, written(with(func(c *api.Config) { c.Tables[1] = nil })), api.ErrForm)
}

// TestCountsWrong: P14.1, R1: a count that is another one than how many there are, small or great.
func TestCountsWrong(t *testing.T) {
	for name, f := range counts() {
		for _, n := range []int{2, 3} {
			c := with(func(c *api.Config) { f(c, n) })
			less := with(func(c *api.Config) { f(c, n-1) })
			all, at := things(c), 0
			for other := things(less); bytes.Equal(all[at], other[at]); {
				at++
			}
			_, text := strings.CutPrefix(name, "name")
			for _, k := range []int64{-1, -2, -1 << 62, math.MinInt64, 0, 1, 2, 3, 4, 5, 6, 7, 8, 9, 12, 13, 127, 128, 129, 255, 256, 1 << 16, 1 << 24, 1 << 31, 1 << 32, 1 << 33, 1<<32 + 2, 1<<32 + 3, 1 << 40, 1<<40 - 1, 1 << 62, math.MaxInt64} {
				x := spell(k)
				if text {
					x = append(x, all[at][len(spell(int64(n))):]...)
				}
				if k == int64(n) {
					is(t, replaced(all, at, x), c, api.OK)
				} else {
					none(t, replaced(all, at, x), api.ErrForm)
				}
				none(t, sealed(slices.Concat(all[:at], [][]byte{x[:len(spell(k))]})...), api.ErrForm)
			}
		}
	}
}

// TestBytewise: P14.1, R1: each byte of sealed bytes another one, left out, twice: what that tells, or none.
func TestBytewise(t *testing.T) {
	often := map[api.Errno]int{}
	for _, c := range []api.Config{sample.Slippery()[1], {Parts: []api.Part{{Name: "a", Procs: []api.Proc{{}}}}, Tables: [][]api.Node{times(2, idle(1))}}} {
		body := slices.Concat(things(c)...)
		for at := range body {
			for x := range 256 {
				b := slices.Clone(body)
				b[at] = byte(x)
				often[agree(t, sealed(b))]++
			}
			often[agree(t, sealed(body[:at], body[at+1:]))]++
			often[agree(t, sealed(body[:at+1], body[at:]))]++
		}
	}
	if often[api.OK] < 1000 || often[api.ErrForm] < 10000 {
		t.Errorf("so often each was answered: %v", often)
	}
}

// TestTurned: P14.2: of an image each bit turned, alone, and each byte another one.
func TestTurned(t *testing.T) {
	for _, c := range append(sample.Slippery(), full()) {
		b := back(t, c)
		for at := range b {
			was := b[at]
			for bit := range 8 {
				b[at] = was ^ 1<<bit
				none(t, b, api.ErrSum)
			}
			for x := range 256 {
				if b[at] = byte(x); b[at] != was && x%7 == at%7 {
					none(t, b, api.ErrSum)
				}
			}
			b[at] = was
		}
		is(t, b, c, api.OK)
	}
	for _, c := range modules(3, 40) {
		b := back(t, c)
		for at := range 8 * len(b) {
			b[at/8] ^= 1 << (at % 8)
			is(t, b, api.Config{}, api.ErrSum)
			b[at/8] ^= 1 << (at % 8)
		}
		is(t, b, c, api.OK)
	}
}

// TestEnds: P14.2: of an image each number of bytes cut off at its end, or at its front; bytes put behind it, or ahead of it.
func TestEnds(t *testing.T) {
	for _, c := range append(modules(4, 30), sample.Slippery()...) {
		b := back(t, c)
		for n := range b {
			if is(t, b[:n], api.Config{}, api.ErrSum); n > 0 {
				is(t, b[n:], api.Config{}, api.ErrSum)
			}
		}
		for x := range 256 {
			none(t, append(slices.Clone(b), byte(x)), api.ErrSum)
			none(t, append([]byte{byte(x)}, b...), api.ErrSum)
		}
		for _, more := range [][]byte{{0, 0}, make([]byte, 4), make([]byte, 64), b, b[len(b)-4:], []byte("HORA"), {255, 255, 255, 255}} {
			none(t, slices.Concat(b, more), api.ErrSum)
			none(t, slices.Concat(more, b), api.ErrSum)
		}
		// With the sum of all that stands ahead of it, what is put behind is told by its form alone.
		none(t, sealed(b), api.ErrForm)
		none(t, sealed(sealed(b)), api.ErrForm)
	}
}
