package text_test

import (
	"slices"
	"strings"
	"testing"

	"horarium/api"
	"horarium/node"
	"horarium/sample"
	"horarium/text"
)

// chain is s within so many of what stands ahead and behind.
func chain(how int, ahead, s, behind string) string {
	return strings.Repeat(ahead, how) + s + strings.Repeat(behind, how)
}

// wide is a Seq of so many s.
func wide(how int, s string) string {
	return "s(" + strings.Repeat(s+",", how-1) + s + ")"
}

// there: s tells l, and Node leads back, if l may be a table.
func there(t *testing.T, s string, l []api.Node) {
	t.Helper()
	tells(t, s, l, true)
	if node.Right(l) != api.OK {
		s = ""
	}
	spelt(t, l, s)
}

// TestTable: P13.1: tables as text: each kind of node, alone, and each within each.
func TestTable(t *testing.T) {
	a, b, c := window(0, 3), window(5, 4096), idle(7)
	for s, l := range map[string][]api.Node{
		"w0:3": a, "w5:4096": b, "i7": c, "s(w0:3)": seq(a), "s(i7)": seq(c), "r1(w0:3)": times(1, a), "r9(i7)": times(9, c), "s(w0:3,i7)": seq(a, c), "s(i7,w0:3)": seq(c, a), "s(w0:3,w5:4096,i7)": seq(a, b, c), "s(i7,i7,i7,i7)": seq(c, c, c, c),
		"s(s(i7))": seq(seq(c)), "s(r2(i7))": seq(times(2, c)), "r2(s(i7))": times(2, seq(c)), "r2(r3(i7))": times(2, times(3, c)), "r2(s(i7,w0:3))": times(2, seq(c, a)), "s(r2(i7),w0:3)": seq(times(2, c), a), "s(w0:3,r2(i7))": seq(a, times(2, c)), "s(s(i7),w0:3)": seq(seq(c), a), "s(w0:3,s(i7))": seq(a, seq(c)), "s(s(w0:3,i7),s(i7,w0:3))": seq(seq(a, c), seq(c, a)), "s(r2(s(w0:3,i7)),r3(s(i7,w0:3)),i7)": seq(times(2, seq(a, c)), times(3, seq(c, a)), c), "r2(r3(r4(s(r5(w0:3)))))": times(2, times(3, times(4, seq(times(5, a))))),
		// Any number, and tables that may not be for what they tell.
		"w6:1": window(6, 1), "w7:1": window(7, 1), "w100:1": window(100, 1), "w4294967296:1": window(1<<32, 1), "w1099511627775:1": window(1<<40-1, 1), "w0:0": window(0, 0), "i0": idle(0), "r0(i1)": times(0, idle(1)), "w0:4097": window(0, 4097), "i1099511627775": idle(1<<40 - 1), "r1099511627775(w1099511627775:1099511627775)": times(1<<40-1, window(1<<40-1, 1<<40-1)), "s(w9:0,r0(r0(i0)))": seq(window(9, 0), times(0, times(0, idle(0)))),
	} {
		there(t, s, l)
	}
}

// TestNoTable: what is none.
func TestNoTable(t *testing.T) {
	for _, s := range []string{
		"", " ", "\n", "\x00", "#", "w", "w0", "w0:", "w:1", ":1", "w:", "0:1", "w0:01", "w00:1", "w01:1", "w-1:1", "w0:-1", "w+1:1", "wa:1", "wsense:1", "w0,1", "w0:1:1", "w0::1", "w0:1,", "w0:1)", "w(0:1)", "w0(1)", "w0 :1", "w0: 1", "w 0:1", "W0:1", "w1099511627776:1", "w18446744073709551616:1", "w0:1099511627776",
		"i", "i-1", "i+1", "i:1", "i0:1", "ia", "i1 ", " i1", "i 1", "i1\n", "\ni1", "i1\r", "i1\x00", "i1,i1", "i1i1", "i1)", "i(1)", "i1(", "i01", "i00", "I1", "i1099511627776", "i1#", "ii1",
		"s", "s(", "s)", "s()", "s(i1", "si1", "si1)", "s(i1(", "s(i1:", "s(i1,)", "s(,i1)", "s(,)", "s(i1,,i1)", "s(i1))", "s((i1))", "s(i1)(", "s(i1),", "s(i1)i1", "s(i1)s(i1)", "s(i1) ", "s(i1 )", "s( i1)", "s (i1)", "s(i1, i1)", "s(i1;i1)", "s(i1 i1)", "s(i1i1)", "s1(i1)", "s2(i1,i1)", "s i1", "S(i1)", "s[i1]", "s{i1}", "s<i1>", "s(s)", "s(s())", "s(r2)", "s(w0)", "s(i)", "s(i1,s())", "s(i1,r2())", "s(i1,x)", "s(x)", "s(i1,w0:1,i1", "s(i1,s(i1,i1)", "(i1)", "(s(i1))", "()", "(", ")", ",", ":", "s(i1)\n",
		"r", "r2", "r2(", "r2)", "r2()", "r2i1", "r2(i1", "r2i1)", "r(i1)", "r2(i1))", "r2(i1,i1)", "r2(i1,)", "r2(,i1)", "r2((i1))", "r2(i1)(i1)", "r2(i1)i1", "r02(i1)", "r00(i1)", "r-2(i1)", "r2 (i1)", "r2( i1)", "r2(i1 )", "r2:i1", "r2:(i1)", "r2,(i1)", "r1099511627776(i1)", "R2(i1)", "r2(x)", "r2(r2)", "r2(s())", "2(i1)", "r2[i1]", "ra(i1)", "r2(i1);", "r2(s(i1)", "r2r2(i1)", "r2x(i1)",
		"x1", "t1", "q8", "1", "0", "-", "-1", "table i1", "ｗ0:1", "s（i1）", "i١", "\xff", "i\xff", "i1\xff",
	} {
		tells(t, s, nil, false)
		for _, x := range []string{"s(" + s + ")", "s(i1," + s + ")", "r2(" + s + ")"} {
			tabled(t, x)
		}
	}
}

// TestPieces: each row of a few pieces, alone and as a line of a text.
func TestPieces(t *testing.T) {
	tables := 0
	for _, l := range sample.Each([]string{"s(", "r2(", "i1", "w0:1", ",", ")"}, 7) {
		s := strings.Join(l, "")
		if tabled(t, s) {
			tables++
			table, _ := text.Table(s)
			spelt(t, table, s)
		}
		if len(l) > 0 && len(l) < 6 {
			agree(t, but(4, "table "+strings.ReplaceAll(s, "w0", "wsense")))
		}
	}
	if tables < 50 {
		t.Errorf("no more than %d tables", tables)
	}
}

// TestBytes: each text of up to two bytes, and each longer one of those bytes that tables have.
func TestBytes(t *testing.T) {
	for a := range 256 {
		tabled(t, string([]byte{byte(a)}))
		for b := range 256 {
			tabled(t, string([]byte{byte(a), byte(b)}))
		}
	}
	for _, s := range sample.Each([]byte("swri:(),01"), 5) {
		tabled(t, string(s))
	}
	for _, s := range sample.Each([]byte("si(1,)"), 7) {
		tabled(t, string(s))
	}
}

// TestTableTurned: tables in which each byte is left out, twice, and turned into each other one.
func TestTableTurned(t *testing.T) {
	for _, s := range []string{"s(w0:1,r2(s(i10,w5:20)),i3)", "r3(s(s(i1),w1:2))", "r10(r20(w3:4))"} {
		for i := range s {
			tells(t, s[:i], nil, false)
			tabled(t, s[i:])
			tabled(t, s[:i]+s[i+1:])
			tabled(t, s[:i+1]+s[i:])
			for b := range 256 {
				tabled(t, s[:i]+string([]byte{byte(b)})+s[i+1:])
				tabled(t, s[:i]+string([]byte{byte(b)})+s[i:])
			}
		}
		for b := range 256 {
			tells(t, s+string([]byte{byte(b)}), nil, false)
		}
	}
}

// TestNodes: as many nodes as there may be, one more, many more; in each shape.
func TestNodes(t *testing.T) {
	for _, n := range []int{100, 126, 127, 128, 129, 130, 255, 256, 257, 384, 500} {
		for s, l := range map[string][]api.Node{
			wide(n-1, "i1"): sample.Wide(n-1, idle(1)), "r1(" + wide(n-2, "w0:2") + ")": times(1, sample.Wide(n-2, window(0, 2))), "s(" + wide(n-2, "i1") + ")": seq(sample.Wide(n-2, idle(1))), "s(" + wide(n-3, "i1") + ",i1)": seq(sample.Wide(n-3, idle(1)), idle(1)), "s(i1," + wide(n-3, "i1") + ")": seq(idle(1), sample.Wide(n-3, idle(1))),
			"s(" + strings.Repeat("i1,", n-3) + "r2(i1))": append(append([]api.Node{{Kind: api.Seq, N: int64(n - 2)}}, slices.Repeat(idle(1), n-3)...), times(2, idle(1))...), "s(" + wide(50, "i1") + "," + wide(n-53, "i2") + ")": seq(sample.Wide(50, idle(1)), sample.Wide(n-53, idle(2))),
		} {
			if len(l) != n {
				t.Fatalf("%d nodes, not %d", len(l), n)
			}
			line := "table " + strings.ReplaceAll(s, "w0", "wa")
			if n > 128 {
				tells(t, s, nil, false)
				is(t, lines("part a 0 0 - 00000 0:0", line), api.ErrForm, 2)
				continue
			}
			there(t, s, l)
			right(t, lines("part a 0 0 - 00000 0:0", line), api.Config{Parts: []api.Part{{Name: "a", Procs: []api.Proc{{}}}}, Tables: [][]api.Node{l}})
		}
		half := wide((n-1)/2, "i1")
		tabled(t, "s("+half+","+half+")")
		tabled(t, wide((n-1)/2, "r1(i1)"))
		tabled(t, wide((n-1)/3, "s(i1,i1)"))
		tabled(t, wide((n-1)/3, "s(r1(i1))"))
		// One too many, and then an end that is missing.
		tells(t, wide(n, "i1")[:2*n], nil, false)
	}
	// One too many that is missing itself.
	for n := 120; n < 140; n++ {
		tells(t, "s("+strings.Repeat("i1,", n)+")", nil, false)
		tells(t, "s("+strings.Repeat("i1,", n)+"r1())", nil, false)
		tells(t, "s("+strings.Repeat("i1,", n)+"s())", nil, false)
	}
	// They are counted table by table.
	most, more := "table "+wide(127, "i1"), "table "+wide(128, "i1")
	a := "part a 0 0 - 00000 0:0"
	right(t, lines(a, most, most, most), api.Config{Parts: []api.Part{{Name: "a", Procs: []api.Proc{{}}}}, Tables: slices.Repeat([][]api.Node{sample.Wide(127, idle(1))}, 3)})
	is(t, lines(a, more, most, most), api.ErrForm, 2)
	is(t, lines(a, most, more, most), api.ErrForm, 3)
	is(t, lines(a, most, most, more), api.ErrForm, 4)
}

// TestDepth: as deep as a table may be, one level more, many more; in each shape.
func TestDepth(t *testing.T) {
	for n := 1; n < 40; n++ {
		for _, x := range []struct {
			s string
			l []api.Node
		}{
			{chain(n-1, "r1(", "i1", ")"), sample.Chain(n-1, 1, idle(1))}, {chain(n-1, "r1(", "w0:1", ")"), sample.Chain(n-1, 1, window(0, 1))}, {chain(n-1, "s(", "i1", ")"), append(slices.Repeat([]api.Node{{Kind: api.Seq, N: 1}}, n-1), idle(1)...)}, {chain(n-1, "s(", "w0:1", ")"), append(slices.Repeat([]api.Node{{Kind: api.Seq, N: 1}}, n-1), window(0, 1)...)},
			{chain(n-1, "s(i1,", "i1", ")"), nil}, {chain(n-1, "s(", "i1", ",i1)"), nil}, {chain((n-1)/2, "s(r1(", "i1", "))"), nil}, {chain((n-1)/2, "r1(s(", "w5:1", ",i1))"), nil},
			{"s(" + chain(n-1, "s(", "i1", ")") + ",i1)", nil}, {"s(i1,i1," + chain(n-1, "r1(", "i1", ")") + ")", nil}, {"s(" + chain(14, "r1(", "i1", ")") + "," + chain(n-1, "r1(", "i1", ")") + "," + chain(14, "r1(", "i1", ")") + ")", nil},
		} {
			if x.l == nil {
				tabled(t, x.s)
			} else if n > 16 {
				tells(t, x.s, nil, false)
			} else {
				there(t, x.s, x.l)
			}
			agree(t, lines("part a 0 0 - 00000 0:0", "table "+strings.NewReplacer("w0", "wa", "w5", "wa").Replace(x.s)))
		}
		// No end, and nothing within, however deep.
		tells(t, chain(n, "s(", "", ")"), nil, false)
		tells(t, chain(n, "r1(", "", ")"), nil, false)
		tells(t, chain(n, "s(i1,", "", ")"), nil, false)
		tells(t, strings.Repeat("r1(", n), nil, false)
		tells(t, chain(n, "r1(", "i1", ")")[:4*n+1], nil, false)
		tells(t, chain(n, "r1(", "i1", ")")+")", nil, false)
	}
	a := "part a 0 0 - 00000 0:0"
	is(t, lines(a, "table "+chain(15, "r1(", "i1", ")")), api.OK, 0)
	is(t, lines(a, "table "+chain(16, "r1(", "i1", ")")), api.ErrForm, 2)
	is(t, lines(a, "table i1", "table "+chain(16, "s(", "wa:1", ")")), api.ErrForm, 3)
}

// TestNode: P13.1: each kind of node, nested; nothing of what is no table.
func TestNode(t *testing.T) {
	name := func(p int) string { return string("012345"[p]) }
	tables := 0
	for _, l := range append(sample.Tables(), sample.Full().Tables...) {
		want := ""
		if node.Right(l) == api.OK {
			want = drawn(l, 0, name)
			there(t, want, l)
			tables++
		}
		spelt(t, l, want)
		// What is cut off, or goes on, is none.
		spelt(t, l[:len(l)-1], "")
		spelt(t, append(slices.Clone(l), idle(1)...), "")
	}
	if tables < 100 {
		t.Errorf("no more than %d tables", tables)
	}
	for _, l := range [][]api.Node{nil, {}, seq(), times(2, nil), {{}}, {{Kind: api.Seq, N: 1}}, idle(0), idle(-1), idle(4097), window(0, 0), window(6, 1), window(-1, 1), times(0, idle(1)), times(4097, idle(1)), times(64, times(65, idle(1))), sample.Wide(128, idle(1)), sample.Chain(16, 1, idle(1)), slices.Concat(idle(1), idle(1)), {{Kind: api.Seq, N: 2}, {Kind: api.Idle, N: 1}}, {{Kind: api.Idle, Part: 1, N: 1}}, {{Kind: 5, N: 1}}} {
		spelt(t, l, "")
	}
	for _, n := range sample.Wrongs() {
		spelt(t, []api.Node{n}, "")
		spelt(t, append([]api.Node{n}, idle(1)...), "")
		spelt(t, seq(idle(1), []api.Node{n}), "")
		spelt(t, times(2, append([]api.Node{n}, idle(1)...)), "")
	}
}

// TestNodeRows: each row of a few nodes, and each number of ticks that a leaf may have.
func TestNodeRows(t *testing.T) {
	name := func(p int) string { return string("012345"[p]) }
	some := []api.Node{{Kind: api.Window, Part: 2, N: 3}, {Kind: api.Idle, N: 1}, {Kind: api.Seq, N: 1}, {Kind: api.Seq, N: 2}, {Kind: api.Seq, N: 3}, {Kind: api.Repeat, N: 2}, {Kind: api.Repeat, N: 4000}, {Kind: api.Idle, N: 0}}
	for _, l := range sample.Each(some, 5) {
		want := ""
		if node.Right(l) == api.OK {
			want = drawn(l, 0, name)
			tells(t, want, l, true)
		}
		spelt(t, l, want)
	}
	for n := range int64(4100) {
		for p := range 6 {
			l := window(p, n)
			if n < 1 || n > 4096 {
				spelt(t, l, "")
				continue
			}
			there(t, drawn(l, 0, name), l)
		}
		tabled(t, drawn(times(n, idle(1)), 0, name))
	}
}
