package text_test

import (
	"reflect"
	"slices"
	"strings"
	"testing"
	"unsafe"

	"horarium/api"
	"horarium/config"
	"horarium/sample"
	"horarium/text"
)

// span is where a list or a text stands, its room included: from the first byte to behind the last.
type span struct {
	from, to uintptr
}

// listed is where l stands.
func listed[T any](l []T) span {
	var x T
	from := uintptr(unsafe.Pointer(unsafe.SliceData(l)))
	return span{from, from + uintptr(cap(l))*unsafe.Sizeof(x)}
}

// stands is where s stands.
func stands(s string) span {
	from := uintptr(unsafe.Pointer(unsafe.StringData(s)))
	return span{from, from + uintptr(len(s))}
}

// spans are those of all lists of c, and of its names.
func spans(c api.Config) []span {
	out := []span{listed(c.Parts), listed(c.Chans), listed(c.Tables)}
	for _, x := range c.Parts {
		out = append(out, stands(x.Name), listed(x.Procs))
	}
	for _, l := range c.Tables {
		out = append(out, listed(l))
	}
	return out
}

// met: have two of l a byte in common?
func met(l []span) bool {
	for i, a := range l {
		for _, b := range l[:i] {
			if a.from < b.to && b.from < a.to {
				return true
			}
		}
	}
	return false
}

// TestNew: R2: what Parse and Table answer is new memory: no two lists of it, nor of two answers, share any, nor does a name with the text.
func TestNew(t *testing.T) {
	for _, c := range append(modules(7, 300), bounds()...) {
		s := text.Print(c)
		a, b := is(t, s, api.OK, 0), is(t, s, api.OK, 0)
		if met(slices.Concat(spans(a), spans(b), []span{stands(s)})) {
			t.Fatalf("lists of answers, or the text, share memory: %s", brief(s))
		}
		for _, l := range c.Tables {
			s := text.Node(l)
			x, _ := text.Table(s)
			y, _ := text.Table(s)
			if met([]span{listed(x), listed(y), stands(s), stands(text.Node(l))}) {
				t.Fatalf("two answers share memory: %s", s)
			}
		}
	}
}

// TestAnew: R2, R4: what is turned in an answer, its room too, turns no later one; nothing is kept.
func TestAnew(t *testing.T) {
	for _, c := range modules(8, 100) {
		s := text.Print(c)
		for range 3 {
			a, _, _ := text.Parse(s)
			right(t, s, a)
			for p := range a.Parts {
				for i := range sample.Whole(a.Parts[p].Procs) {
					sample.Whole(a.Parts[p].Procs)[i] = api.Proc{Entry: 77, Prio: 77}
				}
				a.Parts[p].Name = "turned"
			}
			for _, l := range a.Tables {
				for i := range sample.Whole(l) {
					sample.Whole(l)[i] = api.Node{Kind: 9, Part: 9, N: 9}
				}
			}
			for i := range sample.Whole(a.Chans) {
				sample.Whole(a.Chans)[i] = api.Chan{From: 7, To: 7}
			}
			clear(sample.Whole(a.Parts))
			clear(sample.Whole(a.Tables))
			is(t, "x\n"+s, api.ErrForm, 1)
			tells(t, "s(w9:0", nil, false)
			prints(t, c, s)
		}
	}
}

// TestNotChanged: R2, R5: what is handed to Print and Node stays, and its spare room is neither read nor written.
func TestNotChanged(t *testing.T) {
	for _, c := range append(modules(9, 300), bounds()...) {
		in := sample.RoomyModule(c, full())
		was := sample.WholeModule(in)
		s := written(c)
		prints(t, in, s)
		for _, cut := range []func(c *api.Config){
			func(c *api.Config) { c.Parts = c.Parts[:len(c.Parts)/2] }, func(c *api.Config) { c.Chans = c.Chans[:len(c.Chans)/2] }, func(c *api.Config) { c.Tables = c.Tables[:len(c.Tables)/2] },
		} {
			less := in
			cut(&less)
			if config.Right(less) == api.OK {
				prints(t, less, written(less))
			} else {
				prints(t, less, "")
			}
		}
		for _, l := range in.Tables {
			there(t, text.Node(l), l)
			spelt(t, l[:len(l)-1], "")
		}
		if !reflect.DeepEqual(sample.WholeModule(in), was) {
			t.Fatalf("%s was changed", s)
		}
	}
}

// TestText: R2: the text that is handed in stays: the bytes around it, and itself.
func TestText(t *testing.T) {
	long := "chan \n" + lines(base...) + "\npart x 0 0 - 00000 0:0\n"
	s := long[6 : 6+len(lines(base...))]
	was := strings.Clone(long)
	for range 3 {
		right(t, s, module())
		is(t, s[:len(s)-2], api.ErrForm, 6)
		is(t, long, api.ErrForm, 1)
	}
	if long != was {
		t.Error("the text was changed")
	}
	tells(t, "s(i1,i2)i3"[:8], seq(idle(1), idle(2)), true)
}

// TestAlone: R4: an answer hangs on what is given alone, in whatever order it is asked.
func TestAlone(t *testing.T) {
	var texts []string
	draw := dice(10)
	for _, c := range modules(11, 60) {
		s := text.Print(c)
		texts = append(texts, s, muddled(draw, s), muddled(draw, s))
	}
	type answer struct {
		c   api.Config
		why api.Errno
		at  int
	}
	var first []answer
	for _, s := range texts {
		c, why, at := text.Parse(s)
		first = append(first, answer{c, why, at})
	}
	for range 2000 {
		i := draw(len(texts))
		if c, why, at := text.Parse(strings.Clone(texts[i])); !reflect.DeepEqual(answer{c, why, at}, first[i]) {
			t.Fatalf("Parse(%s) answers something else", brief(texts[i]))
		}
	}
}

// TestNothing: R4: nil and empty lists mean the same, handed in and answered.
func TestNothing(t *testing.T) {
	c := with(func(c *api.Config) { c.Chans, c.Parts[0].Budget, c.Parts[0].Period = nil, 0, 0 })
	s := text.Print(c)
	c.Chans = []api.Chan{}
	prints(t, c, s)
	right(t, s, c)
	for _, c := range []api.Config{{}, {Parts: []api.Part{}, Chans: []api.Chan{}, Tables: [][]api.Node{}}, {Tables: [][]api.Node{nil}}, {Tables: [][]api.Node{{}}}, {Parts: []api.Part{{}}}, {Parts: []api.Part{{Procs: []api.Proc{}}}}} {
		prints(t, c, "")
	}
	spelt(t, nil, "")
	spelt(t, []api.Node{}, "")
	spelt(t, idle(1)[:0], "")
}

// TestEvery: R1: a call ends, whatever bytes it is given: of each length, drawn of all bytes and of those that texts have.
func TestEvery(t *testing.T) {
	draw := dice(12)
	for _, likely := range []string{"", "ptc \n#", "part chan table 0123456789:,-st\n", "s(),riw0123:", "01", "\n", " ", "s(", "r1(", "i1,", "0:0,"} {
		for n := range 600 {
			s := make([]byte, n)
			for i := range s {
				s[i] = byte(draw(256))
				if likely != "" {
					s[i] = likely[draw(len(likely))]
				}
			}
			agree(t, string(s))
			tabled(t, string(s))
			agree(t, lines(base[:2]...)+"table "+string(s))
			agree(t, lines(base[:2]...)+"chan sense "+string(s))
			agree(t, "part "+string(s))
		}
	}
}

// TestGreat: R1: a great many bytes of each kind, for Table asks no length; a great many partitions, channels, tables, nodes.
func TestGreat(t *testing.T) {
	const many = 1 << 20
	for _, s := range []string{"s(", "r1(", "r", "s", "(", ")", ",", "i1,", "i", "0", "1", "9", "w", "w0", "w0:", ":", "w0:1,", "\x00", "\n", " ", "\xff", "s(i1,", "r2(s(i1),"} {
		long := strings.Repeat(s, many)
		for _, x := range []string{long, "s(" + long, "i" + long, "w" + long, "w0:" + long, "r" + long, "r2(" + long, "s(i1" + long, "s(i1," + long + "i1)"} {
			if l, ok := text.Table(x); ok || len(l) > 0 {
				t.Errorf("Table(%s): %d nodes, %v", brief(x[:20]), len(l), ok)
			}
			if _, why, at := text.Parse(x); why != api.ErrLong || at != 0 {
				t.Errorf("Parse(%s): %d, %d", brief(x[:20]), int(why), at)
			}
		}
		for _, ahead := range []string{"", "part ", "part sense ", "part sense 1 4 s 01201 ", "part sense 1 4 s 01201 0:0,", "table ", "table s(i1,", lines(base[:2]...) + "chan ", lines(base[:2]...) + "table s(", "#", "\n"} {
			agree(t, (ahead + long)[:16384])
			agree(t, (ahead + long)[:16385])
		}
	}
	c := full()
	for _, x := range []api.Config{{Parts: slices.Repeat(c.Parts, many/8), Tables: c.Tables}, {Parts: c.Parts, Chans: slices.Repeat(c.Chans, many/8), Tables: c.Tables}, {Parts: c.Parts, Tables: slices.Repeat(c.Tables, many/8)}, {Parts: c.Parts, Tables: [][]api.Node{sample.Wide(many, idle(1))}}, {Parts: c.Parts, Tables: [][]api.Node{sample.Chain(many, 2, idle(1))}}} {
		prints(t, x, "")
	}
	spelt(t, sample.Wide(many, idle(1)), "")
	spelt(t, sample.Chain(many, 1, idle(1)), "")
	// As many lines as a text may have, of each kind.
	for _, l := range []string{"part a 0 0 - 00000 0:0\n", "table i1\n", "#\n"} {
		agree(t, strings.Repeat(l, 16384/len(l)))
		agree(t, lines(base...)+strings.Repeat(l, (16384-len(lines(base...)))/len(l)))
	}
	agree(t, lines(base[:2]...)+strings.Repeat(base[3]+"\n", 500))
	agree(t, lines(base[:2]...)+strings.Repeat(base[2]+"\n", 400)+"chan act_2 act_3 s 0 0")
}

// TestOddNumbers: R1: numbers of any size in what is handed to Print and Node.
func TestOddNumbers(t *testing.T) {
	for _, n := range append(sample.Odd(), -1, 0, 4097) {
		for _, l := range [][]api.Node{window(int(n), 1), window(0, n), idle(n), times(n, idle(1)), {{Kind: api.Seq, N: n}, {Kind: api.Idle, N: 1}}, {{Kind: int(n), N: 1}}, {{Kind: api.Idle, Part: int(n), N: 1}}} {
			if l[0] == (api.Node{Kind: api.Window, N: 1}) || l[0] == (api.Node{Kind: api.Idle, N: 1}) {
				continue
			}
			spelt(t, l, "")
			prints(t, with(func(c *api.Config) { c.Tables[1] = l }), "")
		}
	}
}
