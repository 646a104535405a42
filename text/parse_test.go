package text_test

import (
	"slices"
	"strings"
	"testing"

	"horarium/api"
	"horarium/config"
	"horarium/text"
)

// base is a right module line by line: of each kind of line two.
var base = []string{
	"part sense 1 4 s 01201 0:1,508:255",
	"part act_2 0 0 - 22222 4:0",
	"chan sense act_2 q8 4294967295 6",
	"chan act_2 sense s 0 0",
	"table r2(s(wsense:2,wact_2:1,i1))",
	"table s(wsense:3,wact_2:1)",
}

// module is what base tells.
func module() api.Config {
	return api.Config{
		Parts:  []api.Part{{Name: "sense", Budget: 1, Period: 4, Sched: true, Procs: []api.Proc{{Entry: 0, Prio: 1}, {Entry: 508, Prio: 255}}, Health: [5]int{0, 1, 2, 0, 1}}, {Name: "act_2", Procs: []api.Proc{{Entry: 4}}, Health: [5]int{2, 2, 2, 2, 2}}},
		Chans:  []api.Chan{{From: 0, To: 1, Queue: true, Cap: 8, Max: 4294967295, Late: 6}, {From: 1, To: 0}},
		Tables: [][]api.Node{times(2, seq(window(0, 2), window(1, 1), idle(1))), seq(window(0, 3), window(1, 1))},
	}
}

// lines is l as a text, each line with its end.
func lines(l ...string) string {
	return strings.Join(l, "\n") + "\n"
}

// but is base with another line at a place.
func but(at int, l string) string {
	return lines(slices.Replace(slices.Clone(base), at, at+1, l)...)
}

// none: with l as its line at a place base is no text, and that line is told.
func none(t *testing.T, at int, l string) {
	t.Helper()
	is(t, but(at, l), api.ErrForm, at+1)
}

// right: s tells c.
func right(t *testing.T, s string, c api.Config) {
	t.Helper()
	if got := is(t, s, api.OK, 0); !config.Same(got, c) {
		t.Fatalf("Parse(%s): %+v, want %+v", brief(s), got, c)
	}
}

// TestExamples: the chapter's run and examples.
func TestExamples(t *testing.T) {
	spelt(t, idle(5), "i5")
	tells(t, "s(w0:1,i2)", []api.Node{{Kind: api.Seq, N: 2}, {Kind: api.Window, Part: 0, N: 1}, {Kind: api.Idle, N: 2}}, true)
	is(t, "", api.ErrLong, 0)
	right(t, lines(base...), module())
	prints(t, module(), lines(base...))
}

// TestLengths: of no byte, of MaxText bytes, of one more, of many more; that a text is too long is told ahead of any line.
func TestLengths(t *testing.T) {
	whole := lines(base...)
	for _, n := range []int{1000, 16383, 16384, 16385, 16386, 16384 + len(whole), 32768, 1 << 20} {
		left := n - len(whole)
		for _, s := range []string{
			whole + strings.Repeat("#", left), whole + strings.Repeat("\n", left), strings.Repeat("\n", left) + whole, strings.Repeat("#", left-1) + "\n" + whole, strings.Repeat("#\n", left/2) + strings.Repeat("\n", left%2) + whole,
			"#" + strings.Repeat(" ", left-1) + "\n" + whole[:len(whole)-1], whole + "#" + strings.Repeat("\xff", left-1),
		} {
			if len(s) != n {
				t.Fatalf("%d bytes, not %d", len(s), n)
			}
			if n > 16384 {
				is(t, s, api.ErrLong, 0)
			} else {
				right(t, s, module())
			}
		}
		for at, s := range map[int]string{1: strings.Repeat("x", n), n: strings.Repeat("\n", n-1) + "x", 2: "#\npart" + strings.Repeat(" ", n-6), 7: whole + "table s" + strings.Repeat("(", left-7), 3: base[0] + "\n\n" + strings.Repeat("-", n-len(base[0])-2)} {
			if n > 16384 {
				is(t, s, api.ErrLong, 0)
			} else {
				is(t, s, api.ErrForm, at)
			}
		}
	}
	for _, s := range []string{"", "\n", "\n\n\n", "#", "#\n", "##", "\n#", "# part a 0 0 - 00000 0:0\n"} {
		is(t, s, api.ErrLong, 0)
	}
	// Here a byte more makes a number greater, and the text too long.
	long := strings.Repeat("\n", 16384-len(whole)-5) + strings.Replace(whole, "0 0\ntable", "40000 40\ntable", 1)
	right(t, long, with(func(c *api.Config) { c.Chans[1].Max, c.Chans[1].Late = 40000, 40 }))
	is(t, strings.Replace(long, "40000", "400000", 1), api.ErrLong, 0)
}

// with is the module of base, of which something was turned.
func with(f func(c *api.Config)) api.Config {
	c := module()
	f(&c)
	return c
}

// TestEnds: lines end with byte 10 alone, the last one with it and without.
func TestEnds(t *testing.T) {
	right(t, strings.Join(base, "\n"), module())
	right(t, lines(base...), module())
	right(t, lines(base...)+"\n", module())
	right(t, lines(base...)+"\n\n\n", module())
	for _, end := range []string{"\r\n", "\n\r", "\r", "\v", "\f", "\u0085", "\u2028", "\x00", ";", " \n", "\n ", "\t\n", "\n\t"} {
		at := 1
		if end[0] == '\n' {
			at = 2
		}
		is(t, strings.Join(base, end), api.ErrForm, at)
	}
	for _, end := range []string{"\r", " ", "\t", "\x00", "\v", ")", ",", "x"} {
		is(t, strings.Join(base, "\n")+end, api.ErrForm, 6)
		is(t, lines(base...)+end, api.ErrForm, 7)
		is(t, lines(base...)+"#\n"+end+"\n", api.ErrForm, 8)
	}
	// A line that ends within a word, or between two of them: it is none, or what is left of it.
	whole := lines(base...)
	for i := 1; i < len(whole)-1; i++ {
		if whole[i] != '\n' && whole[i-1] != '\n' && agree(t, whole[:i]+"\n"+whole[i:]) != api.ErrForm {
			t.Errorf("Parse(%s) tells a module", brief(whole[:i]+"\n"+whole[i:]))
		}
	}
	// Two lines in one are none.
	for i := range len(base) - 1 {
		for _, s := range []string{"", " "} {
			l := slices.Concat(base[:i], []string{base[i] + s + base[i+1]}, base[i+2:])
			is(t, lines(l...), api.ErrForm, i+1)
		}
	}
}

// TestPassedBy: empty lines and remarks, ahead, between and behind, are passed by, and counted.
func TestPassedBy(t *testing.T) {
	for _, some := range [][]string{
		{""}, {"#"}, {"", ""}, {"", "#", ""}, {"# a remark"}, {"#", "##", "###"}, {"#part sense 0 0 - 00000 0:0"}, {"# " + base[0], "#" + base[5]}, {"#\r", "#\t ", "#\x00\xff\x80é"}, {"#" + strings.Repeat("long ", 99), ""},
	} {
		for at := range len(base) + 1 {
			l := slices.Insert(slices.Clone(base), at, some...)
			right(t, lines(l...), module())
			right(t, strings.Join(l, "\n"), module())
			for i := range base {
				wrong := slices.Clone(base)
				wrong[i] += "?"
				want := i + 1
				if i >= at {
					want += len(some)
				}
				is(t, lines(slices.Insert(wrong, at, some...)...), api.ErrForm, want)
			}
			is(t, lines(slices.Insert(slices.Clone(l), at, "?")...), api.ErrForm, at+1)
			is(t, lines(slices.Insert(slices.Clone(l), at+len(some), "?")...), api.ErrForm, at+len(some)+1)
		}
	}
	// Such as are neither.
	for at := range base {
		for _, l := range []string{" ", "  ", "\t", " #", "\t#", "\x00", "\r", "-", "//", "; a remark", "\xef\xbb\xbf", "\u00a0", ".", "!"} {
			none(t, at, l)
			is(t, lines(slices.Insert(slices.Clone(base), at, l)...), api.ErrForm, at+1)
		}
		for _, l := range []string{base[at] + "#", base[at] + " #", base[at] + " # a remark", base[at] + "# a remark", "\xef\xbb\xbf" + base[at]} {
			none(t, at, l)
		}
	}
}

// TestBlanks: words are parted by one blank; no other byte does, two blanks do not, none stands ahead or behind.
func TestBlanks(t *testing.T) {
	for at, l := range base {
		for i := range len(l) {
			if l[i] != ' ' {
				continue
			}
			for _, s := range []string{"", "  ", "   ", "\t", " \t", "\t ", "\v", "\f", "\r", "\x00", "\u00a0", "\u2003", "_", ",", ":", "-", "/", "!", "\x1f", "\xa0", "0", "a"} {
				none(t, at, l[:i]+s+l[i+1:])
			}
		}
		for _, s := range []string{" ", "  ", "\t", "\r", "\x00", "\u00a0", "\v", "a", "-"} {
			none(t, at, s+l)
			none(t, at, l+s)
			none(t, at, s+l+s)
		}
	}
}

// TestFirstWords: each line begins with one of the three words, to the letter.
func TestFirstWords(t *testing.T) {
	others := []string{"", "p", "par", "parts", "partt", "ppart", "Part", "PART", "pART", "cha", "chann", "channel", "Chan", "CHAN", "tabl", "tables", "Table", "TABLE", "node", "x", "0", "-", "s", "w", "part:", "part,", "\"part\"", "part\t", "part\x00", "рart"}
	for at, l := range base {
		word, rest, _ := strings.Cut(l, " ")
		for _, s := range append(others, "part", "chan", "table") {
			if s != word {
				none(t, at, s+" "+rest)
				none(t, at, s+rest)
			}
		}
		for i := range word {
			none(t, at, word[:i]+word[i+1:]+" "+rest)
			for b := range 256 {
				if byte(b) != word[i] {
					agree(t, but(at, word[:i]+string([]byte{byte(b)})+word[i+1:]+" "+rest))
				}
			}
		}
	}
}

// TestHowManyWords: too few words, too many, one left out, one twice.
func TestHowManyWords(t *testing.T) {
	for at, l := range base {
		words := strings.Split(l, " ")
		for i := 1; i < len(words); i++ {
			none(t, at, strings.Join(words[:i], " "))
			none(t, at, strings.Join(words[:i], " ")+" ")
			none(t, at, strings.Join(words[i:], " "))
		}
		for i, x := range words {
			none(t, at, strings.Join(slices.Delete(slices.Clone(words), i, i+1), " "))
			none(t, at, strings.Join(slices.Insert(slices.Clone(words), i, x), " "))
		}
		for _, x := range []string{"x", "0", "-", "#", "part", ""} {
			none(t, at, l+" "+x)
			none(t, at, l+" "+x+" "+x)
		}
	}
}

// TestFirstLine: of several lines that are none the first one is told, and ahead of whatever the module may not be.
func TestFirstLine(t *testing.T) {
	for i := range base {
		for j := i + 1; j < len(base); j++ {
			for _, wrong := range []string{"x", " ", "part sense 1 4 s 01201", "chan act_2 act_3 s 0 0", "table s(", base[j] + " "} {
				l := slices.Clone(base)
				l[i], l[j] = wrong, wrong
				is(t, lines(l...), api.ErrForm, i+1)
				l[i], l[j] = wrong, "part ?"
				is(t, lines(l...), api.ErrForm, i+1)
				// What a partition of that name would make right behind it stays wrong.
				is(t, lines(append(l, "part act_3 0 0 - 00000 0:0")...), api.ErrForm, i+1)
			}
		}
	}
	for _, l := range [][]string{slices.Repeat(base[:1], 9), {"part a 9 1 - 00000 600:600"}, slices.Concat(base[:3], slices.Repeat(base[2:3], 9)), slices.Concat(base, base[5:], base[5:]), {base[0], base[0], "table i5000"}} {
		is(t, lines(append(l, "table i1 ")...), api.ErrForm, len(l)+1)
	}
}

// TestRefused: right lines of what may not be a module: what config.Right tells, and line 0.
func TestRefused(t *testing.T) {
	part := func(p int) string { return "part p" + string(rune('a'+p)) + " 0 0 - 00000 0:0" }
	parts := func(n int) (out []string) {
		for p := range n {
			out = append(out, part(p))
		}
		return out
	}
	for n := range 9 {
		why := api.OK
		if n < 1 || n > 6 {
			why = api.ErrLong
		}
		is(t, lines(append(parts(n), "table i1")...), why, 0)
	}
	for n := range 12 {
		why := api.OK
		if n > 8 {
			why = api.ErrLong
		}
		is(t, lines(slices.Concat(base[:2], slices.Repeat(base[3:4], n), base[4:])...), why, 0)
	}
	for n := range 6 {
		why := api.OK
		if n < 1 || n > 3 {
			why = api.ErrLong
		}
		is(t, lines(slices.Concat(base[:4], slices.Repeat(base[5:], n))...), why, 0)
	}
	for s, why := range map[string]api.Errno{
		lines("table i1"): api.ErrLong, lines(part(0), part(0), "table i1"): api.ErrName, lines(part(1), part(0), part(1), part(2), "table wpa:1"): api.ErrName, lines(part(0), part(0)): api.ErrLong,
		but(0, "part sense 1 4 s 01201 0:1,2:3,4:5,6:7"): api.ErrPart, but(0, "part sense 1 4 s 01201 0:1,2:3,4:5"): api.OK, but(0, "part sense 1 4 s 01201 512:1"): api.ErrPart, but(0, "part sense 1 4 s 01201 511:1"): api.OK, but(0, "part sense 1 4 s 01201 0:256"): api.ErrPart, but(0, "part sense 1 4 s 01201 0:255"): api.OK,
		but(1, "part act_2 0 4 - 00000 4:0"): api.ErrPart, but(1, "part act_2 1 0 - 00000 4:0"): api.ErrPart, but(1, "part act_2 5 4 - 00000 4:0"): api.ErrPart, but(1, "part act_2 1 4097 - 00000 4:0"): api.ErrPart, but(1, "part act_2 1 4096 - 00000 4:0"): api.ErrShort, but(1, "part act_2 1 4 - 00000 4:0"): api.OK, but(1, "part act_2 2 4 - 00000 4:0"): api.ErrShort,
		but(2, "chan sense sense q8 0 0"): api.ErrChan, but(2, "chan sense act_2 q0 0 0"): api.ErrChan, but(2, "chan sense act_2 q1 0 0"): api.OK, but(2, "chan sense act_2 q9 0 0"): api.ErrChan, but(2, "chan sense act_2 s 0 4096"): api.OK, but(2, "chan sense act_2 s 0 4097"): api.ErrChan, but(2, "chan sense act_2 s 0 2"): api.ErrLate, but(2, "chan sense act_2 s 0 3"): api.OK,
		but(4, "table i0"): api.ErrForm, but(4, "table wsense:0"): api.ErrForm, but(4, "table r0(wsense:4)"): api.ErrForm, but(5, "table s(wsense:3,r0(i1),wact_2:1)"): api.ErrForm, but(4, "table wsense:4096"): api.ErrLate, but(4, "table wsense:4097"): api.ErrTable, but(4, "table r1099511627775(wsense:1099511627775)"): api.ErrTable, but(4, "table i4"): api.ErrShort, but(4, "table s(i5,wsense:1,wact_2:2)"): api.ErrShort,
		but(4, "table r48(s(wsense:1,wact_2:1))"): api.OK, but(4, "table s(r48(s(wsense:1,wact_2:1)),wsense:4)"): api.ErrLong,
		// Of two the one that config.Right names first.
		lines(part(0), part(0), "chan pa pa s 0 0", "table i5000"): api.ErrName, lines(part(0), "chan pa pa s 0 0", "table i5000"): api.ErrChan, lines(part(0), "table i5000", "table i0"): api.ErrTable,
		// In any order, if only what is told of is there already.
		lines("table i4", base[0], "table wsense:4", base[1], base[3], base[2]): api.ErrShort, lines(base[0], base[1], base[4], base[3], base[5], base[2]): api.OK, lines(base[1], "table wact_2:1", "part sense 0 0 - 00000 0:0", "chan sense act_2 s 0 0"): api.OK,
	} {
		is(t, s, why, 0)
	}
}

// TestOrder: what a line tells comes behind what those of its kind ahead of it told, whatever stands between.
func TestOrder(t *testing.T) {
	right(t, lines(base[0], base[1], base[4], base[2], base[5], base[3]), module())
	right(t, lines(base[0], base[1], base[5], base[3], base[4], base[2]), with(func(c *api.Config) {
		slices.Reverse(c.Chans)
		slices.Reverse(c.Tables)
	}))
	right(t, lines(base[1], base[0], base[2], base[3], base[4], base[5]), with(func(c *api.Config) {
		slices.Reverse(c.Parts)
		slices.Reverse(c.Chans[:1])
		c.Chans[0].From, c.Chans[0].To, c.Chans[1].From, c.Chans[1].To = 1, 0, 0, 1
		for _, l := range c.Tables {
			for at, n := range l {
				if n.Kind == api.Window {
					l[at].Part = 1 - n.Part
				}
			}
		}
	}))
}

// TestMuddled: texts of drawn modules in which something was turned about: bytes, words, lines.
func TestMuddled(t *testing.T) {
	draw := dice(1)
	often := map[api.Errno]int{}
	for _, c := range modules(2, 600) {
		s := text.Print(c)
		often[agree(t, s)]++
		for range 6 {
			often[agree(t, muddled(draw, s))]++
		}
	}
	for _, why := range []api.Errno{api.OK, api.ErrForm, api.ErrLong, api.ErrName, api.ErrPart, api.ErrChan, api.ErrLate, api.ErrShort} {
		if often[why] < 3 {
			t.Errorf("refusal %d: no more than %d of these", int(why), often[why])
		}
	}
}

// muddled is s with something turned about, once or more often.
func muddled(draw func(below int) int, s string) string {
	for more := true; more; more = draw(3) == 0 {
		at := draw(len(s) + 1)
		end := min(len(s), at+1+draw(3))
		switch draw(7) {
		case 0:
			s = s[:at] + string([]byte{byte(draw(256))}) + s[end:]
		case 1:
			const likely = "0123456789stwriq:,()- #\nabcdefghijklmnop_"
			s = s[:at] + likely[draw(len(likely)):][:1] + s[min(len(s), at+draw(2)):]
		case 2:
			s = s[:at] + s[end:]
		case 3:
			s = s[:end] + s[at:]
		case 4, 5:
			l := strings.Split(s, "\n")
			a, b := draw(len(l)), draw(len(l))
			l[a], l[b] = l[b], l[a]
			switch draw(4) {
			case 0:
				l = slices.Delete(l, a, a+1)
			case 1:
				l = slices.Insert(l, a, l[b])
			}
			s = strings.Join(l, "\n")
		case 6:
			l := strings.Split(s, "\n")
			a, b := strings.Split(l[draw(len(l))], " "), draw(len(l))
			words := strings.Split(l[b], " ")
			words[draw(len(words))] = a[draw(len(a))]
			l[b] = strings.Join(words, " ")
			s = strings.Join(l, "\n")
		}
	}
	return s
}

// TestEachByte: each byte of a text left out, twice, and turned into each other one.
func TestEachByte(t *testing.T) {
	whole := lines("part ab 1 2 st 01201 4:1,0:2", "part c_1 0 0 - 00000 0:0", "#", "chan ab c_1 q2 9 2", "chan c_1 ab s 9 0", "table r2(s(wab:1,wc_1:1))", "", "table s(i1,wab:1)")
	whole = strings.Replace(whole, "q2 9 2", "q2 9 0", 1)
	agree(t, whole)
	for i := range whole {
		agree(t, whole[:i])
		agree(t, whole[i:])
		agree(t, whole[:i]+whole[i+1:])
		agree(t, whole[:i+1]+whole[i:])
		for b := range 256 {
			agree(t, whole[:i]+string([]byte{byte(b)})+whole[i+1:])
			if b%5 == i%5 {
				agree(t, whole[:i]+string([]byte{byte(b)})+whole[i:])
			}
		}
	}
}
