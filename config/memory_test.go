package config_test

import (
	"cmp"
	"reflect"
	"slices"
	"strings"
	"testing"
	"unsafe"

	"horarium/api"
	"horarium/config"
	"horarium/sample"
)

// TestNotChanged: R2, R5: what is handed in stays, and its spare room is neither read nor written.
func TestNotChanged(t *testing.T) {
	for _, c := range drawn(3, 1000) {
		in := sample.RoomyModule(c, full())
		was := sample.WholeModule(in)
		agree(t, in)
		is(t, in, api.OK, -1)
		same(t, in, c, true)
		same(t, config.Copy(in), c, true)
		// What is cut off, though it stands in the room still, is not there.
		for _, cut := range []func(c *api.Config){
			func(c *api.Config) { c.Parts = c.Parts[:len(c.Parts)/2] }, func(c *api.Config) { c.Chans = c.Chans[:len(c.Chans)/2] }, func(c *api.Config) { c.Tables = c.Tables[:len(c.Tables)/2] }, func(c *api.Config) { c.Parts = c.Parts[:0] },
		} {
			less := in
			cut(&less)
			agree(t, less)
			same(t, less, config.Copy(less), true)
			same(t, less, c, alike(less, c))
		}
		if !reflect.DeepEqual(sample.WholeModule(in), was) {
			t.Fatalf("%s was changed", brief(c))
		}
	}
}

// apart: whatever is turned in a, its room too, nothing of b is.
func apart(t *testing.T, a, b api.Config) {
	t.Helper()
	was := sample.WholeModule(b)
	turn := func() {
		walk(of(&a), true, func(x reflect.Value) {
			if x.Kind() != reflect.Slice {
				other(x)
			}
		})
	}
	turn()
	if !reflect.DeepEqual(sample.WholeModule(b), was) {
		t.Fatalf("%s hangs on the memory of another one", brief(b))
	}
	turn()
}

// span is where a list stands, its room included: from the first byte to behind the last.
type span struct {
	from, to uintptr
}

// spans are those of all lists of c.
func spans(c *api.Config) []span {
	var out []span
	walk(of(c), true, func(x reflect.Value) {
		if x.Kind() == reflect.Slice && x.Cap() > 0 {
			from := x.Pointer()
			out = append(out, span{from, from + uintptr(x.Cap())*x.Type().Elem().Size()})
		}
	})
	return out
}

// meet: have two of l a byte in common?
func meet(l []span) bool {
	slices.SortFunc(l, func(a, b span) int { return cmp.Compare(a.from, b.from) })
	for i := range l[:max(0, len(l)-1)] {
		if l[i].to > l[i+1].from {
			return true
		}
	}
	return false
}

// TestCopy: R2: a copy is the same, in memory of its own: what is turned in it turns nothing of the first, and the other way round; nor is anything kept.
func TestCopy(t *testing.T) {
	for _, c := range append(drawn(4, 500), variants(full())...) {
		for _, in := range []api.Config{c, sample.RoomyModule(c, full())} {
			first, second := config.Copy(in), config.Copy(in)
			same(t, first, c, true)
			if !alike(first, c) || !alike(second, c) {
				t.Fatalf("Copy(%s): %s", brief(c), brief(first))
			}
			apart(t, first, in)
			apart(t, in, first)
			apart(t, first, second)
			apart(t, config.Copy(first), first)
			same(t, first, c, true)
		}
	}
}

// TestCopyEach: R2: each thing that is turned in a copy, or in what it is a copy of, is turned there alone.
func TestCopyEach(t *testing.T) {
	c := full()
	d := config.Copy(c)
	n := 0
	for _, x := range [][2]*api.Config{{&c, &d}, {&d, &c}} {
		each(of(x[0]), func(v reflect.Value) {
			other(v)
			if same(t, *x[1], full(), true); config.Same(*x[0], *x[1]) {
				t.Errorf("Same is true though something was turned")
			}
			other(v)
			same(t, *x[0], full(), true)
			n++
		})
	}
	lists(of(&d), func(v reflect.Value) {
		for i := range v.Len() {
			was := reflect.New(v.Type().Elem()).Elem()
			was.Set(v.Index(i))
			v.Index(i).SetZero()
			same(t, c, full(), true)
			v.Index(i).Set(was)
		}
	})
	same(t, d, full(), true)
	if n < 300 {
		t.Errorf("no more than %d things were turned", n)
	}
}

// TestCopyLists: R2: no two lists of a copy share memory, their room included, also where those of the first one do.
func TestCopyLists(t *testing.T) {
	procs, table := make([]api.Proc, 3, 9), append(make([]api.Node, 0, 99), full().Tables[1]...)
	shared := full()
	for p := range shared.Parts {
		shared.Parts[p].Procs = procs[:1+p%3]
	}
	for i := range shared.Tables {
		shared.Tables[i] = table
	}
	for _, c := range append(drawn(5, 300), shared, api.Config{}, api.Config{Tables: [][]api.Node{table, table[:3], table[:0], nil}}) {
		d, e := config.Copy(c), config.Copy(c)
		if meet(slices.Concat(spans(&d), spans(&e))) {
			t.Fatalf("two lists of copies of %s share memory", brief(c))
		}
		for _, x := range spans(&c) {
			if meet(append(spans(&d), x)) {
				t.Fatalf("a list of a copy of %s stands where one of the first does", brief(c))
			}
		}
		same(t, d, c, true)
	}
}

// TestCopyNames: R2: a name is in memory of its own too, so that a text which it was cut out of is not kept.
func TestCopyNames(t *testing.T) {
	text := strings.Repeat("long", 1<<12)
	c := with(func(c *api.Config) { c.Parts[3].Name = text[4:8] })
	d := config.Copy(c)
	for p, x := range c.Parts {
		if d.Parts[p].Name != x.Name || unsafe.StringData(d.Parts[p].Name) == unsafe.StringData(x.Name) {
			t.Errorf("the name %q is where it was", x.Name)
		}
	}
}

// TestAnew: R2, R4: nothing is kept: other content in the same memory is judged anew.
func TestAnew(t *testing.T) {
	c := full()
	d := config.Copy(c)
	for range 3 {
		is(t, c, api.OK, -1)
		c.Tables[2][0].N = 5000
		is(t, c, api.ErrTable, 2)
		same(t, c, d, false)
		c.Chans[7].To = 0
		is(t, c, api.ErrChan, 7)
		c.Parts[5].Health[0] = 7
		is(t, c, api.ErrPart, 5)
		c.Parts[4].Name = "Z"
		is(t, c, api.ErrName, 4)
		is(t, d, api.OK, -1)
		same(t, config.Copy(c), c, true)
		copy(c.Parts, config.Copy(d).Parts)
		copy(c.Chans, d.Chans)
		copy(c.Tables, config.Copy(d).Tables)
		same(t, c, d, true)
	}
}

// TestGreat: R1: a great many partitions, channels, tables, processes, nodes; long names.
func TestGreat(t *testing.T) {
	const many = 1 << 20
	c := full()
	great := []api.Config{
		{Parts: slices.Repeat(c.Parts, many/6)}, {Parts: c.Parts, Chans: slices.Repeat(c.Chans, many/8), Tables: c.Tables}, {Parts: c.Parts, Tables: slices.Repeat(c.Tables, many/9)},
		with(func(c *api.Config) { c.Parts[3].Procs = make([]api.Proc, many) }), with(func(c *api.Config) { c.Parts[3].Name = strings.Repeat("n", many) }), with(func(c *api.Config) { c.Tables[1] = sample.Wide(many, window(0, 1)) }), with(func(c *api.Config) { c.Tables[1] = sample.Chain(many, greatest, window(0, greatest)) }),
	}
	for i, x := range []fault{{0, 0, 0, api.ErrLong}, {0, 0, 0, api.ErrLong}, {0, 0, 0, api.ErrLong}, {1, 3, 1, api.ErrPart}, {1, 3, 0, api.ErrName}, {3, 1, 0, api.ErrLong}, {3, 1, 0, api.ErrLong}} {
		if why, at := config.Where(great[i]); why != x.why || at != x.place || config.Right(great[i]) != x.why {
			t.Errorf("Where of great %d: %d, %d", i, int(why), at)
		}
		d := config.Copy(great[i])
		for k, other := range great {
			if config.Same(d, other) != (i == k) {
				t.Errorf("Same of great %d and %d: %v", i, k, i != k)
			}
		}
	}
}

// TestFar: R1: numbers of any size, wherever one stands.
func TestFar(t *testing.T) {
	c := full()
	each(of(&c), func(x reflect.Value) {
		was := reflect.New(x.Type()).Elem()
		was.Set(x)
		for _, n := range append(sample.Odd(), -1, 0, 1, 2, 3, 4, 5, 6, 7, 8, 9) {
			if x.CanInt() {
				x.SetInt(n)
			} else if x.CanUint() {
				x.SetUint(uint64(n))
			}
			agree(t, c)
			same(t, config.Copy(c), c, true)
			same(t, c, full(), reflect.DeepEqual(x.Interface(), was.Interface()))
		}
		x.Set(was)
	})
}
