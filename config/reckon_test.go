package config_test

import (
	"fmt"
	"math"
	"math/rand/v2"
	"reflect"
	"regexp"
	"slices"
	"testing"

	"horarium/api"
	"horarium/config"
	"horarium/node"
	"horarium/sample"
)

// Short names of what sample makes.
var (
	window, idle, seq, times = sample.Window, sample.Idle, sample.Seq, sample.Times
	full                     = sample.Full
)

const (
	greatest = math.MaxInt64
	least    = math.MinInt64
)

// fault is one thing that is wrong: of partitions (1), channels (2), tables (3), or how many there are (0), of which one, and at which step it is told.
type fault struct {
	kind, place, step int
	why               api.Errno
}

// names are what Name must take: another way than the package's, which goes byte by byte.
var names = regexp.MustCompile(`\A[a-z][a-z0-9_]{0,11}\z`)

// faults is all that is wrong with c, in no order: each thing is looked at, whatever else is wrong.
func faults(c api.Config) []fault {
	var out []fault
	is := func(wrong bool, kind, place, step int, why api.Errno) {
		if wrong {
			out = append(out, fault{kind, place, step, why})
		}
	}
	is(len(c.Tables) == 0 || len(c.Tables) > 3 || len(c.Chans) > 8 || len(c.Parts) == 0 || len(c.Parts) > 6, 0, 0, 0, api.ErrLong)
	first := map[string]int{}
	for p, x := range c.Parts {
		if _, ok := first[x.Name]; !ok {
			first[x.Name] = p
		}
		is(!names.MatchString(x.Name) || first[x.Name] != p, 1, p, 0, api.ErrName)
		is(len(x.Procs) == 0 || len(x.Procs) > 3, 1, p, 1, api.ErrPart)
		for _, y := range x.Procs {
			is(y.Entry < 0 || y.Entry > 511 || y.Prio < 0 || y.Prio > 255, 1, p, 1, api.ErrPart)
		}
		is(slices.Min(x.Health[:]) < 0 || slices.Max(x.Health[:]) > 2, 1, p, 1, api.ErrPart)
		none, some := x.Budget == 0 && x.Period == 0, 0 < x.Budget && x.Budget <= x.Period && x.Period < 4097
		is(!none && !some, 1, p, 1, api.ErrPart)
	}
	for i, x := range c.Chans {
		is(min(x.From, x.To) < 0 || max(x.From, x.To) >= len(c.Parts) || x.From == x.To, 2, i, 0, api.ErrChan)
		is(x.Queue && (x.Cap < 1 || x.Cap > 8) || !x.Queue && x.Cap != 0, 2, i, 0, api.ErrChan)
		is(x.Late < 0 || x.Late > 4096, 2, i, 0, api.ErrChan)
	}
	for i, t := range c.Tables {
		out = append(out, tabled(c, i, t)...)
	}
	return out
}

// tabled is what is wrong with the table t of c: its nodes tell whose its ticks are, and these are all written out.
func tabled(c api.Config, i int, t []api.Node) []fault {
	if why := node.Right(t); why != api.OK {
		return []fault{{3, i, 0, why}}
	}
	w := sample.Ticks(sample.Leaves(t))
	if len(sample.Together(w)) > 96 {
		return []fault{{3, i, 1, api.ErrLong}}
	}
	var out []fault
	for _, x := range t {
		if x.Kind == api.Window && x.Part >= len(c.Parts) {
			out = append(out, fault{3, i, 2, api.ErrPart})
		}
	}
	if why := sample.Holds(c, w); why != api.OK {
		out = append(out, fault{3, i, 3, why})
	}
	return out
}

// first is what is told of so many faults: that of the least kind, place, step.
func first(l []fault) (api.Errno, int) {
	if len(l) == 0 {
		return api.OK, -1
	}
	x := slices.MinFunc(l, func(a, b fault) int {
		return slices.Compare([]int{a.kind, a.place, a.step}, []int{b.kind, b.place, b.step})
	})
	return x.why, x.place
}

// brief is c as a text, or its beginning, if it is long.
func brief(c api.Config) string {
	s := fmt.Sprintf("%+v", c)
	return s[:min(len(s), 2000)]
}

// is: Where answers why, at, and Right the refusal alone; the second reckoning tells the same.
func is(t *testing.T, c api.Config, why api.Errno, at int) {
	t.Helper()
	if got, place := config.Where(c); got != why || place != at {
		t.Fatalf("Where(%s): %d, %d, want %d, %d", brief(c), int(got), place, int(why), at)
	}
	if got := config.Right(c); got != why {
		t.Fatalf("Right(%s): %d, want %d", brief(c), int(got), int(why))
	}
	if got, place := first(faults(c)); got != why || place != at {
		t.Fatalf("of %s it is reckoned %d, %d, want %d, %d", brief(c), int(got), place, int(why), at)
	}
}

// agree: Where and Right answer of c what the second reckoning tells; that.
func agree(t *testing.T, c api.Config) api.Errno {
	t.Helper()
	why, at := first(faults(c))
	is(t, c, why, at)
	return why
}

// with is a full module, of which something was turned.
func with(f func(c *api.Config)) api.Config {
	c := full()
	f(&c)
	return c
}

// plain is a copy of c with nil for each list of nothing, so that what means the same is the same.
func plain(c api.Config) api.Config {
	c.Parts = append([]api.Part(nil), c.Parts...)
	c.Chans = append([]api.Chan(nil), c.Chans...)
	c.Tables = append([][]api.Node(nil), c.Tables...)
	for p, x := range c.Parts {
		c.Parts[p].Procs = append([]api.Proc(nil), x.Procs...)
	}
	for i, t := range c.Tables {
		c.Tables[i] = append([]api.Node(nil), t...)
	}
	return c
}

// alike is what Same must answer, by another way that knows no fields.
func alike(a, b api.Config) bool {
	return reflect.DeepEqual(plain(a), plain(b))
}

// same: Same answers want, either way.
func same(t *testing.T, a, b api.Config, want bool) {
	t.Helper()
	if config.Same(a, b) != want || config.Same(b, a) != want || alike(a, b) != want {
		t.Fatalf("Same(%s, %s): %v, %v, want %v", brief(a), brief(b), config.Same(a, b), config.Same(b, a), want)
	}
}

// drawn are right modules of all kinds.
func drawn(seed uint64, many int) []api.Config {
	return append([]api.Config{full()}, sample.Rights(rand.New(rand.NewPCG(12, seed)).IntN, many)...)
}
