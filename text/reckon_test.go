package text_test

import (
	"fmt"
	"math/big"
	"math/rand/v2"
	"reflect"
	"regexp"
	"slices"
	"strings"
	"testing"

	"horarium/api"
	"horarium/config"
	"horarium/node"
	"horarium/sample"
	"horarium/text"
)

// Short names of what sample makes.
var (
	window, idle, seq, times = sample.Window, sample.Idle, sample.Seq, sample.Times
	full, bounds             = sample.Full, sample.Bounds
)

// What lines and tables must be: another way than the package's, which goes byte by byte.
const digits = `(0|[1-9][0-9]*)`

var (
	partLine  = regexp.MustCompile(`\Apart ([a-z][a-z0-9_]{0,11}) ` + digits + ` ` + digits + ` (-|s|t|st) ([012]{5}) (([0-9]+:[0-9]+,)*[0-9]+:[0-9]+)\z`)
	chanLine  = regexp.MustCompile(`\Achan ([^ ]+) ([^ ]+) (s|q` + digits + `) ` + digits + ` ` + digits + `\z`)
	tableLine = regexp.MustCompile(`\Atable ([^ ]+)\z`)
	token     = regexp.MustCompile(`\A(?:w([^:]*):` + digits + `|i` + digits + `|r` + digits + `\(|s\(|,|\))`)
	grown     = regexp.MustCompile(`s\(x(,x)*\)|r\(x\)`)
)

// reckon is what Parse must answer: each line is held against what it may be as a whole.
func reckon(s string) (api.Config, api.Errno, int) {
	if len(s) > 16384 {
		return api.Config{}, api.ErrLong, 0
	}
	var c api.Config
	for i, l := range strings.Split(s, "\n") {
		if l != "" && l[0] != '#' && !put(&c, l) {
			return api.Config{}, api.ErrForm, i + 1
		}
	}
	if why := config.Right(c); why != api.OK {
		return api.Config{}, why, 0
	}
	return c, api.OK, 0
}

// put puts what the line l tells behind what c has; false, if it tells nothing.
func put(c *api.Config, l string) bool {
	ok := true
	known := func(s string) int {
		at := slices.IndexFunc(c.Parts, func(x api.Part) bool { return x.Name == s })
		ok = ok && at >= 0
		return at
	}
	if m := partLine.FindStringSubmatch(l); m != nil {
		x := api.Part{Name: m[1], Budget: read(m[2], 1<<40, &ok), Period: read(m[3], 1<<40, &ok), Sched: strings.Contains(m[4], "s"), Stop: strings.Contains(m[4], "t")}
		for i := range x.Health {
			x.Health[i] = strings.Index("012", m[5][i:i+1])
		}
		for s := range strings.SplitSeq(m[6], ",") {
			entry, prio, _ := strings.Cut(s, ":")
			x.Procs = append(x.Procs, api.Proc{Entry: int(read(entry, 1<<40, &ok)), Prio: int(read(prio, 1<<40, &ok))})
		}
		c.Parts = append(c.Parts, x)
	} else if m := chanLine.FindStringSubmatch(l); m != nil {
		x := api.Chan{From: known(m[1]), To: known(m[2]), Queue: m[3] != "s", Max: uint32(read(m[5], 1<<32, &ok)), Late: read(m[6], 1<<40, &ok)}
		if x.Queue {
			x.Cap = int(read(m[4], 1<<40, &ok))
		}
		c.Chans = append(c.Chans, x)
	} else if m := tableLine.FindStringSubmatch(l); m != nil {
		t, is := grow(m[1], known)
		c.Tables = append(c.Tables, t)
		return ok && is
	} else {
		return false
	}
	return ok
}

// read is a number below another one; else ok is false.
func read(s string, below int64, ok *bool) int64 {
	x, is := new(big.Int).SetString(s, 10)
	if !is || x.String() != s || x.Sign() < 0 || x.Cmp(big.NewInt(below)) >= 0 {
		*ok = false
		return 0
	}
	return x.Int64()
}

// grow is what Table must answer: s is cut into pieces, and these are put together, the inner ones first, until one is left.
func grow(s string, whose func(s string) int) ([]api.Node, bool) {
	ok, shape, deep, deepest := true, "", 1, 1
	var out []api.Node
	var open []int
	for s != "" && ok {
		m := token.FindStringSubmatch(s)
		if m == nil || len(out) > 128 {
			return nil, false
		}
		s = s[len(m[0]):]
		switch deepest = max(deepest, deep); m[0][0] {
		case 'w':
			shape, out = shape+"x", append(out, window(whose(m[1]), read(m[2], 1<<40, &ok))...)
		case 'i':
			shape, out = shape+"x", append(out, idle(read(m[3], 1<<40, &ok))...)
		case 'r':
			shape, open, deep = shape+"r(", append(open, len(out)), deep+1
			out = append(out, times(read(m[4], 1<<40, &ok), nil)...)
		case 's':
			shape, open, deep = shape+"s(", append(open, len(out)), deep+1
			out = append(out, api.Node{Kind: api.Seq, N: 1})
		case ',':
			shape += ","
			if ok = len(open) > 0; ok {
				out[open[len(open)-1]].N++
			}
		case ')':
			shape, deep = shape+")", deep-1
			if ok = len(open) > 0; ok {
				open = open[:len(open)-1]
			}
		}
	}
	if len(out) > 128 || deepest > 16 {
		return nil, false
	}
	for was := ""; was != shape; {
		was, shape = shape, grown.ReplaceAllString(shape, "x")
	}
	if !ok || shape != "x" {
		return nil, false
	}
	return out, true
}

// numbered is grow of a table whose partitions are told by their numbers.
func numbered(s string) ([]api.Node, bool) {
	ok := true
	l, is := grow(s, func(s string) int { return int(read(s, 1<<40, &ok)) })
	if !ok || !is {
		return nil, false
	}
	return l, true
}

// written is what Print must answer of c, which is right.
func written(c api.Config) string {
	var b strings.Builder
	name := func(p int) string { return c.Parts[p].Name }
	for _, x := range c.Parts {
		flags := map[[2]bool]string{{false, false}: "-", {true, false}: "s", {false, true}: "t", {true, true}: "st"}[[2]bool{x.Sched, x.Stop}]
		fmt.Fprintf(&b, "part %s %d %d %s ", x.Name, x.Budget, x.Period, flags)
		for _, h := range x.Health {
			fmt.Fprint(&b, h)
		}
		for i, y := range x.Procs {
			fmt.Fprintf(&b, "%c%d:%d", " ,"[min(i, 1)], y.Entry, y.Prio)
		}
		b.WriteByte('\n')
	}
	for _, x := range c.Chans {
		kind := "s"
		if x.Queue {
			kind = fmt.Sprintf("q%d", x.Cap)
		}
		fmt.Fprintf(&b, "chan %s %s %s %d %d\n", name(x.From), name(x.To), kind, x.Max, x.Late)
	}
	for _, t := range c.Tables {
		fmt.Fprintf(&b, "table %s\n", drawn(t, 0, name))
	}
	return b.String()
}

// drawn is the node at place at of l, a table that may be, with all below it, by the places of its children.
func drawn(l []api.Node, at int, name func(p int) string) string {
	n := l[at]
	var kids []string
	for _, kid := range node.Kids(l, at) {
		kids = append(kids, drawn(l, kid, name))
	}
	all := strings.Join(kids, ",")
	return map[int]string{
		api.Window: fmt.Sprintf("w%s:%d", name(max(0, n.Part)), n.N), api.Idle: fmt.Sprintf("i%d", n.N), api.Seq: "s(" + all + ")", api.Repeat: fmt.Sprintf("r%d(%s)", n.N, all),
	}[n.Kind]
}

// brief is s, or its beginning, if it is long.
func brief(s string) string {
	return fmt.Sprintf("%q", s[:min(len(s), 2000)])
}

// is: Parse answers why, at, and beside a refusal nothing; the second reckoning tells the same, and the same module.
func is(t *testing.T, s string, why api.Errno, at int) api.Config {
	t.Helper()
	c, got, line := text.Parse(s)
	if got != why || line != at || why != api.OK && !reflect.DeepEqual(c, api.Config{}) {
		t.Fatalf("Parse(%s): %+v, %d, %d, want %d, %d", brief(s), c, int(got), line, int(why), at)
	}
	want, reckoned, line := reckon(s)
	if reckoned != why || line != at || !config.Same(c, want) {
		t.Fatalf("Parse(%s): %+v, %d, %d, and it is reckoned %+v, %d, %d", brief(s), c, int(why), at, want, int(reckoned), line)
	}
	if why == api.OK && config.Right(c) != api.OK {
		t.Fatalf("Parse(%s): %+v, which is not right", brief(s), c)
	}
	return c
}

// agree: Parse answers of s what the second reckoning tells; that.
func agree(t *testing.T, s string) api.Errno {
	t.Helper()
	_, why, at := reckon(s)
	is(t, s, why, at)
	return why
}

// tells: Table answers want of s; nothing, if ok is false; the second reckoning tells the same.
func tells(t *testing.T, s string, want []api.Node, ok bool) {
	t.Helper()
	l, is := text.Table(s)
	if is != ok || !slices.Equal(l, want) {
		t.Fatalf("Table(%s): %v, %v, want %v, %v", brief(s), l, is, want, ok)
	}
	if l, is := numbered(s); is != ok || !slices.Equal(l, want) {
		t.Fatalf("of %s it is reckoned %v, %v, want %v, %v", brief(s), l, is, want, ok)
	}
}

// tabled: Table answers of s what the second reckoning tells; whether that is a table.
func tabled(t *testing.T, s string) bool {
	t.Helper()
	l, ok := numbered(s)
	tells(t, s, l, ok)
	return ok
}

// spelt: Node answers want of l.
func spelt(t *testing.T, l []api.Node, want string) {
	t.Helper()
	if got := text.Node(l); got != want {
		t.Fatalf("Node(%v): %s, want %s", l[:min(len(l), 200)], brief(got), brief(want))
	}
}

// prints: Print answers want of c, and Parse leads back; of a c that may not be Print answers nothing.
func prints(t *testing.T, c api.Config, want string) {
	t.Helper()
	if got := text.Print(c); got != want {
		t.Fatalf("Print(%s): %s, want %s", brief(fmt.Sprintf("%+v", c)), brief(got), brief(want))
	}
	if want == "" {
		return
	}
	if got := is(t, want, api.OK, 0); !config.Same(got, c) {
		t.Fatalf("Parse(%s): %+v, want %+v", brief(want), got, c)
	}
}

// dice is a draw of numbers below another one.
func dice(seed uint64) func(below int) int {
	return rand.New(rand.NewPCG(13, seed)).IntN
}

// modules are right modules of all kinds, a full one first.
func modules(seed uint64, many int) []api.Config {
	return append([]api.Config{full()}, sample.Rights(dice(seed), many)...)
}
