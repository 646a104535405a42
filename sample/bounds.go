package sample

import (
	"slices"
	"strings"

	"horarium/api"
)

// Bounds are right modules with each thing at its bounds: each that there is, and all of these at once.
func Bounds() []api.Config {
	out := []api.Config{Full()}
	for _, f := range []func(c *api.Config){
		func(c *api.Config) { c.Chans = nil }, func(c *api.Config) { c.Chans = []api.Chan{} }, func(c *api.Config) { c.Chans = c.Chans[:1] }, func(c *api.Config) { c.Tables = c.Tables[:1] }, func(c *api.Config) { c.Tables = c.Tables[:2] },
		func(c *api.Config) { c.Parts, c.Chans, c.Tables = c.Parts[:1], nil, [][]api.Node{Window(0, 4096)} }, func(c *api.Config) { c.Parts, c.Chans, c.Tables = c.Parts[:1], nil, [][]api.Node{Idle(4096)} },
		func(c *api.Config) {
			c.Parts, c.Chans, c.Tables = c.Parts[:2], c.Chans[:2], [][]api.Node{Times(48, Seq(Window(0, 42), Window(1, 42)))}
			c.Parts[1].Budget, c.Parts[1].Period, c.Chans[0].Late, c.Chans[1].Late = 42, 84, 42, 43
		},
		func(c *api.Config) { c.Tables[0] = Chain(13, 1, c.Tables[0]) }, func(c *api.Config) { c.Tables[2] = Chain(13, 1, c.Tables[2]) },
		func(c *api.Config) {
			c.Parts[0].Budget, c.Parts[0].Period = 4096, 4096
			c.Parts, c.Chans, c.Tables = c.Parts[:1], nil, [][]api.Node{Times(4096, Window(0, 1)), Times(2, Times(2048, Window(0, 1))), Window(0, 4096)}
		},
	} {
		c := Full()
		f(&c)
		out = append(out, c)
	}
	for _, great := range []uint32{0, 1, 9, 10, 99, 127, 128, 255, 256, 1<<16 - 1, 1 << 16, 1<<24 - 1, 1 << 24, 1<<31 - 1, 1 << 31, 999999999, 1000000000, 1<<32 - 2, 1<<32 - 1} {
		c := Full()
		for i := range c.Chans {
			c.Chans[i].Max, c.Chans[i].Late = great, 4096*int64(i%2)
			c.Chans[i].Queue, c.Chans[i].Cap = true, i+1
		}
		out = append(out, c)
	}
	for flags := range 4 {
		for n := 1; n < 4; n++ {
			c := Full()
			for p := range c.Parts {
				c.Parts[p].Name = string("abcdef"[p]) + strings.Repeat(string("9_za0m"[p]), 11*(n%2))
				c.Parts[p].Sched, c.Parts[p].Stop = flags&1 > 0, flags&2 > 0
				c.Parts[p].Health = [5]int{n - 1, n - 1, n - 1, n - 1, n - 1}
				c.Parts[p].Procs = slices.Repeat([]api.Proc{{Entry: 511 * (flags & 1), Prio: 255 * (flags & 1)}}, n)
			}
			out = append(out, c)
		}
	}
	return append(out, Longest())
}

// Longest is a right module of as many of each thing as there may be, and great ones: few texts and images are longer.
func Longest() api.Config {
	c := Full()
	for p := range c.Parts {
		c.Parts[p] = api.Part{Name: strings.Repeat(string("abcdef"[p]), 12), Budget: 1, Period: 4096, Sched: true, Stop: true, Procs: slices.Repeat([]api.Proc{{Entry: 511, Prio: 255}}, 3), Health: [5]int{2, 2, 2, 2, 2}}
	}
	for i := range c.Chans {
		c.Chans[i] = api.Chan{From: i % 6, To: (i + 1) % 6, Queue: true, Cap: 8, Max: 1<<32 - 1, Late: 4096}
	}
	l := Wide(127, Window(0, 10))
	for i := 1; i < len(l); i++ {
		l[i].Part = max(0, i-40) % 6
	}
	l[127].N += 4096 - 1270
	c.Tables = [][]api.Node{l, l, l}
	return c
}
