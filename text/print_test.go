package text_test

import (
	"math"
	"slices"
	"strings"
	"testing"

	"horarium/api"
	"horarium/config"
	"horarium/sample"
	"horarium/text"
)

// TestPrint: P13.1: each line of a module, partitions, channels, tables, each with its end.
func TestPrint(t *testing.T) {
	prints(t, full(), lines(
		"part a 0 0 - 00000 0:0", "part b_9 1 6 s 00000 4:7,1:0", "part twelve_chars 0 0 t 01201 511:255,0:1,8:0", "part d 2 12 - 22222 0:3,12:3", "part e0 0 0 st 00000 16:0,16:0,16:0", "part z_z 1 12 - 00002 100:100,0:0",
		"chan a b_9 q8 4294967295 12", "chan b_9 a s 0 0", "chan twelve_chars d q1 1 0", "chan d e0 s 300 10", "chan e0 z_z s 0 4096", "chan z_z a s 7 12", "chan a twelve_chars q3 9 0", "chan a b_9 s 5 0",
		"table r2(s(wa:1,wb_9:1,wtwelve_chars:1,wd:1,we0:1,wz_z:1))", "table s(wb_9:2,wd:2,i1,wa:1,wb_9:1,wtwelve_chars:1,we0:1,wz_z:3)", "table r4(s(wa:1,wb_9:1,wtwelve_chars:1,wd:1,we0:1,wz_z:1))",
	))
	one := api.Config{Parts: []api.Part{{Name: "a", Procs: []api.Proc{{}}}}, Tables: [][]api.Node{idle(1)}}
	prints(t, one, "part a 0 0 - 00000 0:0\ntable i1\n")
	one.Parts[0].Name, one.Parts[0].Stop, one.Tables = "z9", true, [][]api.Node{window(0, 2), times(2, idle(3))}
	prints(t, one, "part z9 0 0 t 00000 0:0\ntable wz9:2\ntable r2(i3)\n")
	one.Parts[0].Budget, one.Parts[0].Period, one.Parts[0].Health, one.Tables = 4096, 4096, [5]int{0, 1, 2, 2, 1}, [][]api.Node{times(4096, seq(window(0, 1)))}
	prints(t, one, "part z9 4096 4096 t 01221 0:0\ntable r4096(s(wz9:1))\n")
}

// TestPrintNone: nothing of what may not be a module, whatever it may not be for.
func TestPrintNone(t *testing.T) {
	prints(t, api.Config{}, "")
	for i, f := range []func(c *api.Config){
		func(c *api.Config) { c.Parts = nil }, func(c *api.Config) { c.Tables = nil }, func(c *api.Config) { c.Tables = [][]api.Node{nil} }, func(c *api.Config) { c.Parts = make([]api.Part, 7) }, func(c *api.Config) { c.Chans = slices.Repeat(c.Chans, 5) }, func(c *api.Config) { c.Tables = slices.Repeat(c.Tables, 2) },
		func(c *api.Config) { c.Parts[0].Name = "" }, func(c *api.Config) { c.Parts[0].Name = "Sense" }, func(c *api.Config) { c.Parts[1].Name = "a b" }, func(c *api.Config) { c.Parts[1].Name = "sense" }, func(c *api.Config) { c.Parts[1].Name = "a\n" },
		func(c *api.Config) { c.Parts[0].Budget = -1 }, func(c *api.Config) { c.Parts[0].Period = 0 }, func(c *api.Config) { c.Parts[0].Period = 3 }, func(c *api.Config) { c.Parts[0].Budget = 4 }, func(c *api.Config) { c.Parts[0].Procs = nil }, func(c *api.Config) { c.Parts[1].Procs[0].Entry = 512 }, func(c *api.Config) { c.Parts[1].Procs[0].Prio = -1 }, func(c *api.Config) { c.Parts[1].Procs = make([]api.Proc, 4) }, func(c *api.Config) { c.Parts[1].Health[4] = 3 }, func(c *api.Config) { c.Parts[1].Health[0] = -1 },
		func(c *api.Config) { c.Chans[0].From = 2 }, func(c *api.Config) { c.Chans[0].To = -1 }, func(c *api.Config) { c.Chans[0].To = 0 }, func(c *api.Config) { c.Chans[0].Cap = 9 }, func(c *api.Config) { c.Chans[0].Cap = 0 }, func(c *api.Config) { c.Chans[1].Cap = 1 }, func(c *api.Config) { c.Chans[1].Queue = true }, func(c *api.Config) { c.Chans[1].Late = -1 }, func(c *api.Config) { c.Chans[0].Late = 4097 }, func(c *api.Config) { c.Chans[0].Late = 1 }, func(c *api.Config) { c.Chans[0].Late = math.MinInt64 },
		func(c *api.Config) { c.Tables[0][0].N = 0 }, func(c *api.Config) { c.Tables[1][1].Part = 2 }, func(c *api.Config) { c.Tables[1][1].Part = 6 }, func(c *api.Config) { c.Tables[1][0].Kind = 0 }, func(c *api.Config) { c.Tables[1] = c.Tables[1][:2] }, func(c *api.Config) { c.Tables[1] = times(2, nil) }, func(c *api.Config) { c.Tables[1] = idle(4) }, func(c *api.Config) { c.Tables[1] = sample.Chain(16, 1, c.Tables[1]) }, func(c *api.Config) { c.Tables[1] = window(0, 5000) },
	} {
		if c := with(f); config.Right(c) == api.OK || text.Print(c) != "" {
			t.Errorf("Print of wrong %d: %s", i, brief(text.Print(c)))
		}
	}
	for _, n := range sample.Wrongs() {
		prints(t, with(func(c *api.Config) { c.Tables[0] = []api.Node{n} }), "")
		prints(t, with(func(c *api.Config) { c.Tables[1][2] = n }), "")
	}
}

// TestBack: P13.2: what Print writes Parse reads back, and each line is as it must be; of drawn modules.
func TestBack(t *testing.T) {
	for _, c := range modules(4, 3000) {
		prints(t, c, written(c))
		for _, l := range c.Tables {
			s := text.Node(l)
			there(t, s, l)
		}
	}
}

// TestBounds: P13.2: modules with each thing at its bounds.
func TestBounds(t *testing.T) {
	for i, c := range bounds() {
		if why := config.Right(c); why != api.OK {
			t.Fatalf("bounds %d may not be: %d", i, int(why))
		}
		prints(t, c, written(c))
	}
	if s := text.Print(sample.Longest()); len(s) < 6000 || len(s) > 16384 {
		t.Errorf("the longest text has %d bytes", len(s))
	}
}

// TestSameText: P13.2: of a text in another order, with remarks, or without an end: what it tells is printed as each other one that tells the same.
func TestSameText(t *testing.T) {
	draw := dice(5)
	for _, c := range modules(6, 300) {
		s := text.Print(c)
		var out []string
		kinds := [3][]string{}
		for l := range strings.Lines(s) {
			at := slices.Index([]byte("pct"), l[0])
			kinds[at] = append(kinds[at], l)
		}
		out = kinds[0]
		for len(kinds[1])+len(kinds[2]) > 0 {
			if k := 1 + draw(2); len(kinds[k]) > 0 {
				out, kinds[k] = append(out, kinds[k][0]), kinds[k][1:]
			}
			if draw(3) == 0 {
				out = append(out, "#\n", "\n", "# "+s[:draw(9)]+"\n")
			}
		}
		other := strings.TrimSuffix(strings.Join(out, ""), "\n")
		right(t, other, c)
		back, _, _ := text.Parse(other)
		if got := text.Print(back); got != s {
			t.Fatalf("Print of %s: %s", brief(other), brief(got))
		}
	}
}
