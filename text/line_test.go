package text_test

import (
	"fmt"
	"math/big"
	"strconv"
	"strings"
	"testing"

	"horarium/api"
	"horarium/sample"
	"horarium/text"
)

// place is where in base a number may stand, #, and the greatest one that a text may tell there.
type place struct {
	at   int
	line string
	most int64
}

// places of numbers: each that there is.
func places() []place {
	const most = 1<<40 - 1
	return []place{
		{0, "part sense # 4 s 01201 0:1,508:255", most}, {0, "part sense 1 # s 01201 0:1,508:255", most}, {0, "part sense # # s 01201 0:1,508:255", most},
		{0, "part sense 1 4 s 01201 #:1", most}, {0, "part sense 1 4 s 01201 0:#", most}, {0, "part sense 1 4 s 01201 #:1,508:255", most}, {0, "part sense 1 4 s 01201 0:#,508:255", most}, {0, "part sense 1 4 s 01201 0:1,#:255", most}, {0, "part sense 1 4 s 01201 0:1,508:#", most}, {0, "part sense 1 4 s 01201 0:1,2:#,508:255", most},
		{2, "chan sense act_2 q# 4294967295 6", most}, {2, "chan sense act_2 q8 # 6", 1<<32 - 1}, {2, "chan sense act_2 s # 6", 1<<32 - 1}, {2, "chan sense act_2 q8 4294967295 #", most}, {3, "chan act_2 sense s 0 #", most},
		{4, "table wsense:#", most}, {4, "table i#", most}, {4, "table r#(wsense:4)", most}, {4, "table s(wsense:#,wact_2:1)", most}, {4, "table s(wsense:3,wact_2:#)", most}, {5, "table s(i#,wsense:1,wact_2:1)", most}, {5, "table s(wsense:1,wact_2:1,i#)", most}, {5, "table r2(r#(r2(wsense:1)))", most}, {5, "table s(wsense:1,r#(wact_2:1))", most},
	}
}

// fill is the text with n at the place.
func (x place) fill(n string) string {
	return but(x.at, strings.ReplaceAll(x.line, "#", n))
}

// TestNumbers: P13.1: at each place where a number stands.
func TestNumbers(t *testing.T) {
	wrong := []string{
		"", "00", "01", "02", "000", "001", "010", "00000000000000000001", "0000000000000000000000000000", "01099511627775",
		"-1", "+1", "-0", "+0", "--1", "1-", "-", "+", "a", "1a", "a1", "0a", "0x1", "0b1", "0o7", "1_0", "_1", "1_", "1e3", "1.0", "1.", ".5", "1'0", "\"1\"", "(1)", "1)", "(1", "²", "٣", "１", "½", "1\t", "\t1", "1\x00", "\x001", "1\r", "1\xff", "\xb1", "inf", "nan", "none", "s", "q", "w", "ten",
		// Beyond 2^40 - 1 and beyond what any number of 64 bits holds, also such as would be small again there.
		"1099511627776", "1099511627777", "1099511627785", "1999999999999", "2199023255552", "9999999999999", "10000000000000", "10995116277750", "9007199254740993", "9223372036854775807", "9223372036854775808", "9223372036854775809", "18446744073709551615", "18446744073709551616", "18446744073709551617", "18446744073709551620", "36893488147419103233", "340282366920938463463374607431768211456", "340282366920938463463374607431768211457", strings.Repeat("9", 100), "1" + strings.Repeat("0", 3000),
	}
	for _, x := range places() {
		for _, n := range wrong {
			is(t, x.fill(n), api.ErrForm, x.at+1)
		}
		for _, n := range []int64{0, 1, 2, 3, 4, 5, 7, 8, 9, 10, 11, 19, 99, 100, 101, 255, 256, 511, 512, 4095, 4096, 4097, 1 << 31, 1<<32 - 1, 1 << 32, 1<<32 + 1, 999999999999, 1<<40 - 2, 1<<40 - 1, 1 << 40} {
			s := strconv.FormatInt(n, 10)
			if n > x.most {
				is(t, x.fill(s), api.ErrForm, x.at+1)
			} else if _, _, at := text.Parse(x.fill(s)); at != 0 {
				t.Errorf("Parse(%s): no form, at %d", brief(x.fill(s)), at)
			}
			agree(t, x.fill(s))
			is(t, x.fill("0"+s), api.ErrForm, x.at+1)
		}
		for b := range 256 {
			s := string([]byte{byte(b)})
			for _, n := range []string{s, s + "1", "1" + s, "1" + s + "1"} {
				agree(t, x.fill(n))
			}
		}
	}
}

// TestNumbersRead: each number as it is, at its place.
func TestNumbersRead(t *testing.T) {
	for n := range 4097 {
		x := api.Chan{From: 1, To: 0, Queue: true, Cap: 1 + n%8, Max: uint32(n) * 1048575, Late: int64(n)}
		y := api.Part{Name: "a", Budget: int64(max(1, n)), Period: 4096, Procs: []api.Proc{{Entry: n % 512, Prio: n % 256}, {Entry: 511 - n%512, Prio: 255 - n%256}}}
		s := fmt.Sprintf("part a %d 4096 - 00000 %d:%d,%d:%d\npart b 0 0 - 00000 0:0\nchan b a q%d %d %d\ntable s(wb:1,wa:4095)\n", y.Budget, n%512, n%256, 511-n%512, 255-n%256, x.Cap, x.Max, n)
		if n == 4096 {
			is(t, s, api.ErrShort, 0)
		} else {
			right(t, s, api.Config{Parts: []api.Part{y, {Name: "b", Procs: []api.Proc{{}}}}, Chans: []api.Chan{x}, Tables: [][]api.Node{seq(window(1, 1), window(0, 4095))}})
		}
		tells(t, fmt.Sprintf("r%d(s(w0:%d,w%d:1,i%d))", n, n, n, n), times(int64(n), seq(window(0, int64(n)), window(n, 1), idle(int64(n)))), true)
	}
}

// TestDigits: numbers of any digits, by what they are.
func TestDigits(t *testing.T) {
	draw := dice(3)
	bound := big.NewInt(1 << 40)
	for range 20000 {
		s := ""
		for range 1 + draw(15) {
			s += string("0123456789"[draw(10)])
		}
		if draw(2) == 0 {
			s = new(big.Int).Add(bound, big.NewInt(int64(draw(2001)-1000))).String()
		}
		x, _ := new(big.Int).SetString(s, 10)
		l, ok := text.Table("i" + s)
		if want := s[0] != '0' && x.Cmp(bound) < 0 || s == "0"; ok != want || ok && (len(l) != 1 || big.NewInt(l[0].N).Cmp(x) != 0) {
			t.Fatalf("Table(i%s): %v, %v", s, l, ok)
		}
	}
}

// form: base with l at a place has right lines, or not.
func form(t *testing.T, ok bool, at int, l string) {
	t.Helper()
	if !ok {
		none(t, at, l)
		return
	}
	if _, _, line := text.Parse(but(at, l)); line != 0 {
		t.Errorf("Parse(%s): no form, at %d", brief(but(at, l)), line)
	}
	agree(t, but(at, l))
}

// TestFlags: -, s, t, st, and nothing else.
func TestFlags(t *testing.T) {
	for s, want := range map[string][2]bool{"-": {false, false}, "s": {true, false}, "t": {false, true}, "st": {true, true}} {
		for p := range 2 {
			words := strings.Split(base[p], " ")
			words[4] = s
			right(t, but(p, strings.Join(words, " ")), with(func(c *api.Config) { c.Parts[p].Sched, c.Parts[p].Stop = want[0], want[1] }))
		}
	}
	for _, l := range sample.Each([]byte("-stxS0"), 4) {
		s := string(l)
		form(t, s == "-" || s == "s" || s == "t" || s == "st", 0, "part sense 1 4 "+s+" 01201 0:1")
	}
	for _, s := range []string{"T", "ST", "sT", "s,t", "s:t", "s_t", "none", "_", "s\x00", "\x00", "—", "–", "ﬆ", "true"} {
		none(t, 0, "part sense 1 4 "+s+" 01201 0:1")
	}
}

// TestHealth: five digits 0 to 2, each for its fault.
func TestHealth(t *testing.T) {
	for _, l := range sample.Each([]byte("0123"), 6) {
		s := string(l)
		form(t, len(s) == 5 && !strings.Contains(s, "3"), 1, "part act_2 0 0 - "+s+" 4:0")
	}
	for i := range 5 {
		for b := range 256 {
			s := "21021"[:i] + string([]byte{byte(b)}) + "21021"[i+1:]
			if b >= '0' && b <= '2' {
				right(t, but(1, "part act_2 0 0 - "+s+" 4:0"), with(func(c *api.Config) {
					c.Parts[1].Health = [5]int{2, 1, 0, 2, 1}
					c.Parts[1].Health[i] = b - '0'
				}))
			} else {
				none(t, 1, "part act_2 0 0 - "+s+" 4:0")
			}
		}
	}
	for _, s := range []string{"-", "-0000", "+0000", "0,0,0,0,0", "0:0:0", "٠٠٠٠٠", "0000000000", "00000,00000"} {
		none(t, 1, "part act_2 0 0 - "+s+" 4:0")
	}
}

// TestProcs: one and more, each of an entry and how urgent it is, parted by commas.
func TestProcs(t *testing.T) {
	for s, want := range map[string][]api.Proc{
		"0:0": {{Entry: 0, Prio: 0}}, "7:9": {{Entry: 7, Prio: 9}}, "511:255": {{Entry: 511, Prio: 255}}, "1:2,3:4": {{Entry: 1, Prio: 2}, {Entry: 3, Prio: 4}}, "3:4,1:2": {{Entry: 3, Prio: 4}, {Entry: 1, Prio: 2}}, "1:2,3:4,5:6": {{Entry: 1, Prio: 2}, {Entry: 3, Prio: 4}, {Entry: 5, Prio: 6}}, "8:8,8:8,8:8": {{Entry: 8, Prio: 8}, {Entry: 8, Prio: 8}, {Entry: 8, Prio: 8}},
	} {
		right(t, but(0, "part sense 1 4 s 01201 "+s), with(func(c *api.Config) { c.Parts[0].Procs = want }))
	}
	for n := 4; n < 500; n = n*2 + 1 {
		is(t, but(0, "part sense 1 4 s 01201 0:0"+strings.Repeat(",1:1", n-1)), api.ErrPart, 0)
		none(t, 0, "part sense 1 4 s 01201 0:0"+strings.Repeat(",1:1", n-1)+",")
	}
	for _, s := range []string{"", "-", ",", ":", "0", "0:", ":0", "0:1,", ",0:1", "0:1,,2:3", "0:1;2:3", "0:1:2", "0,1", "0:1,2", "0:1,2:", "0:1,:3", "0::1", "0-1", "0=1", "0:1,2:3,", "0:1.2:3", "0:1 2:3", "0:1, 2:3", "0: 1", "(0:1)", "0:1)", "4:0\x00"} {
		none(t, 1, "part act_2 0 0 - 22222 "+s)
	}
	for _, l := range sample.Each([]string{"0", "7", ":", ","}, 7) {
		agree(t, but(1, "part act_2 0 0 - 22222 "+strings.Join(l, "")))
	}
}

// TestNames: each byte at the beginning of a partition's name, within it and at its end, and names of each length.
func TestNames(t *testing.T) {
	named := func(s string) api.Errno {
		return agree(t, lines("part "+s+" 0 0 - 00000 0:0", "part other 0 0 - 00000 0:0", "chan "+s+" other s 0 0", "table s(w"+s+":1,wother:2)"))
	}
	for b := range 256 {
		x := string([]byte{byte(b)})
		for _, s := range []string{x, x + "a", "a" + x, "a" + x + "a", "a" + x + x, "elevenchars" + x, x + "elevenchars"} {
			is := named(s)
			const letters, others = "abcdefghijklmnopqrstuvwxyz", "0123456789_"
			if want := strings.Contains(letters, x) || strings.Contains(others, x) && s[0] != x[0]; want != (is == api.OK) {
				t.Errorf("the name %q: %d", s, int(is))
			}
		}
	}
	for n := range 40 {
		want := api.ErrForm
		if n > 0 && n < 13 {
			want = api.OK
		}
		for _, x := range []string{"a", "z"} {
			if got := named(strings.Repeat(x, n)); got != want {
				t.Errorf("a name of %d bytes: %d", n, int(got))
			}
		}
	}
	for _, s := range []string{"part", "chan", "table", "s", "q8", "w", "i1", "r2", "st"} {
		if named(s) != api.OK {
			t.Errorf("the name %s is none", s)
		}
	}
	none(t, 1, "part Act_2 0 0 - 22222 4:0")
	none(t, 1, "part thirteen_char 0 0 - 22222 4:0")
	is(t, but(1, "part act_3 0 0 - 22222 4:0"), api.ErrForm, 3)
}

// TestKnown: P13.1: partitions are told by names that are there already.
func TestKnown(t *testing.T) {
	for _, s := range []string{"", "x", "sens", "ense", "sensee", "Sense", "SENSE", "sense_", "sense1", "act", "act_", "act_22", "act-2", "act_3", "0", "1", "2", "-1", "-", "*", "part", "sense,act_2", "sense:", ":", "sense\x00", "\x00", "\t", "sénse", "ѕense", "(sense)", "w", "thirteen_char", "1a", "_", strings.Repeat("a", 4000)} {
		for at, l := range map[int][]string{2: {"chan # act_2 q8 1 6", "chan sense # q8 1 6", "chan # # s 1 6"}, 4: {"table w#:4", "table s(w#:4,wsense:1)", "table s(wsense:3,w#:1)", "table r2(s(wsense:2,w#:1,i1))"}, 5: {"table w#:4"}} {
			for _, x := range l {
				none(t, at, strings.ReplaceAll(x, "#", s))
			}
		}
	}
	// Those that stand further on alone are not there already.
	for i, l := range [][]string{
		{base[0], base[2], base[1]}, {base[1], base[3], base[0]}, {base[0], base[3], base[1]}, {base[0], base[4], base[1]}, {base[1], "table wsense:4", base[0]}, {base[2], base[0], base[1]}, {base[5], base[0], base[1]}, {"#", "chan sense act_2 s 0 0", base[0], base[1]},
	} {
		at := 2
		if i == 5 || i == 6 {
			at = 1
		}
		is(t, lines(append(l, base[2:]...)...), api.ErrForm, at)
	}
	// What tells itself is there, and may not be for another reason.
	is(t, but(2, "chan act_2 act_2 s 0 0"), api.ErrChan, 0)
}

// TestTwice: of names that are there twice the first one counts; the lines are right, and the module may not be for its names alone.
func TestTwice(t *testing.T) {
	for _, l := range [][]string{
		{base[0], base[1], base[0]}, {base[0], base[1], base[1]}, {base[0], base[0], base[1]}, {base[0], base[1], "part sense 0 0 - 00000 0:0"}, {base[0], "part sense 0 0 - 00000 0:0", base[1]}, {base[0], base[1], base[0], base[1], base[0], base[1]},
	} {
		is(t, lines(append(l, base[2:]...)...), api.ErrName, 0)
		is(t, lines(append(l, "chan sense act_2 s 0 0", "chan act_2 sense s 0 0", "table i1")...), api.ErrName, 0)
		is(t, lines(append(l, "chan sense act_3 s 0 0", "table i1")...), api.ErrForm, len(l)+1)
	}
}

// TestKinds: s, or q and Cap.
func TestKinds(t *testing.T) {
	right(t, but(2, "chan sense act_2 s 4294967295 6"), with(func(c *api.Config) { c.Chans[0].Queue, c.Chans[0].Cap = false, 0 }))
	for n := 1; n < 9; n++ {
		right(t, but(2, "chan sense act_2 q"+strconv.Itoa(n)+" 4294967295 6"), with(func(c *api.Config) { c.Chans[0].Cap = n }))
	}
	for _, s := range []string{"q0", "q9", "q10", "q100", "q4294967296", "q4294967297", "q1099511627775"} {
		is(t, but(2, "chan sense act_2 "+s+" 4294967295 6"), api.ErrChan, 0)
	}
	for _, s := range []string{"", "q", "q00", "q01", "q08", "q1099511627776", "q18446744073709551617", "s0", "s1", "s8", "ss", "sq", "sq8", "qs", "q8s", "qq8", "q8q", "Q8", "S", "x", "x8", "8", "0", "1", "q-1", "q+8", "q:8", "q(8)", "q,8", "q_8", "qa", "-", "t", "st", "r8", "queue", "q8,", "s,", "s\x00", "\x00s"} {
		none(t, 2, "chan sense act_2 "+s+" 4294967295 6")
	}
	for b := range 256 {
		x := string([]byte{byte(b)})
		for _, s := range []string{x, x + "8", "q" + x, "q8" + x, "s" + x} {
			agree(t, but(2, "chan sense act_2 "+s+" 4294967295 6"))
		}
	}
}

// TestChannels: each two ends, and each thing of a channel at its place.
func TestChannels(t *testing.T) {
	c := api.Config{Tables: [][]api.Node{seq(window(0, 1), window(1, 1), window(2, 1), window(3, 1), window(4, 1), window(5, 1))}}
	var parts []string
	for _, s := range []string{"a", "b2", "c_c", "d", "aa", "twelve_chars"} {
		parts = append(parts, "part "+s+" 0 0 - 00000 0:0")
		c.Parts = append(c.Parts, api.Part{Name: s, Procs: []api.Proc{{}}})
	}
	for from, a := range c.Parts {
		for to, b := range c.Parts {
			s := lines(append(parts, "chan "+a.Name+" "+b.Name+" q3 77 0", "table s(wa:1,wb2:1,wc_c:1,wd:1,waa:1,wtwelve_chars:1)", "chan "+b.Name+" "+a.Name+" s 4294967295 4096")...)
			if from == to {
				is(t, s, api.ErrChan, 0)
				continue
			}
			c.Chans = []api.Chan{{From: from, To: to, Queue: true, Cap: 3, Max: 77}, {From: to, To: from, Max: 4294967295, Late: 4096}}
			right(t, s, c)
		}
	}
}
