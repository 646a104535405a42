package config_test

import (
	"math"
	"reflect"
	"slices"
	"testing"

	"horarium/api"
	"horarium/config"
	"horarium/sample"
)

// each: f is called for each number, text and bool of v, wherever it stands.
func each(v reflect.Value, f func(x reflect.Value)) {
	walk(v, false, func(x reflect.Value) {
		if x.Kind() != reflect.Slice {
			f(x)
		}
	})
}

// lists: f is called for each list of v, the inner ones first.
func lists(v reflect.Value, f func(x reflect.Value)) {
	walk(v, false, func(x reflect.Value) {
		if x.Kind() == reflect.Slice {
			f(x)
		}
	})
}

// walk: f is called for all of v, what stands in a list's room too, if that is asked; of a list behind what stands in it.
func walk(v reflect.Value, room bool, f func(x reflect.Value)) {
	switch v.Kind() {
	case reflect.Struct:
		for i := range v.NumField() {
			walk(v.Field(i), room, f)
		}
		return
	case reflect.Array:
		for i := range v.Len() {
			walk(v.Index(i), room, f)
		}
		return
	case reflect.Slice:
		all := v
		if room {
			all = v.Slice(0, v.Cap())
		}
		for i := range all.Len() {
			walk(all.Index(i), room, f)
		}
	}
	f(v)
}

// other makes x another number, text or bool; the same one, if it is called again.
func other(x reflect.Value) {
	switch x.Kind() {
	case reflect.String:
		s := []byte(x.String() + "\x00")
		if n := len(s) - 1; n > 0 && s[n-1] == 0 {
			s = s[:n-1]
		}
		x.SetString(string(s))
	case reflect.Bool:
		x.SetBool(!x.Bool())
	case reflect.Uint32:
		x.SetUint(x.Uint() ^ 1<<31)
	default:
		x.SetInt(x.Int() ^ math.MinInt64)
	}
}

// of is c as what each and lists go through.
func of(c *api.Config) reflect.Value {
	return reflect.ValueOf(c).Elem()
}

// variants are c, and c with each thing turned alone: each number, text and bool, and each list longer, shorter at either end, without any, and turned about. Two of them may be the same.
func variants(c api.Config) []api.Config {
	out := []api.Config{config.Copy(c)}
	things, many := 0, 0
	each(of(&c), func(reflect.Value) { things++ })
	lists(of(&c), func(reflect.Value) { many++ })
	for k := range things {
		one, at := plain(c), 0
		each(of(&one), func(x reflect.Value) {
			if at == k {
				other(x)
			}
			at++
		})
		out = append(out, one)
	}
	for k := range many {
		for _, f := range []func(x reflect.Value) reflect.Value{
			func(x reflect.Value) reflect.Value { return reflect.Append(x, reflect.Zero(x.Type().Elem())) },
			func(x reflect.Value) reflect.Value { return reflect.AppendSlice(x, x) },
			func(x reflect.Value) reflect.Value { return x.Slice(0, max(0, x.Len()-1)) },
			func(x reflect.Value) reflect.Value { return x.Slice(min(1, x.Len()), x.Len()) },
			func(x reflect.Value) reflect.Value { return x.Slice(0, 0) },
			func(x reflect.Value) reflect.Value {
				swap := reflect.Swapper(x.Interface())
				for i := range x.Len() / 2 {
					swap(i, x.Len()-1-i)
				}
				return x
			},
			func(x reflect.Value) reflect.Value {
				if x.Len() > 1 {
					reflect.Swapper(x.Interface())(0, 1)
				}
				return x
			},
		} {
			one, at := plain(c), 0
			lists(of(&one), func(x reflect.Value) {
				if at == k {
					x.Set(f(x))
				}
				at++
			})
			out = append(out, one)
		}
	}
	return out
}

// TestSame: each thing turned alone, held against the module as it was, and against all others.
func TestSame(t *testing.T) {
	c := full()
	all := variants(c)
	differ := 0
	for i, a := range all {
		same(t, a, a, true)
		same(t, a, plain(a), true)
		same(t, a, c, alike(a, c))
		if !alike(a, c) {
			differ++
		}
		for _, b := range all[i+1:] {
			if config.Same(a, b) != config.Same(b, a) || config.Same(a, b) != alike(a, b) {
				t.Fatalf("Same(%s, %s): %v", brief(a), brief(b), config.Same(a, b))
			}
		}
	}
	if differ < 250 {
		t.Errorf("no more than %d differ from the first", differ)
	}
	for i, c := range drawn(2, 300) {
		for _, a := range variants(c) {
			same(t, a, c, alike(a, c))
		}
		same(t, c, full(), i == 0)
	}
}

// TestSameExamples: what differs, thing by thing, by the names of these.
func TestSameExamples(t *testing.T) {
	for i, f := range []func(c *api.Config){
		func(c *api.Config) { c.Parts[0].Name = "b" }, func(c *api.Config) { c.Parts[5].Name = "z_zz" }, func(c *api.Config) { c.Parts[5].Name = "" },
		func(c *api.Config) { c.Parts[1].Budget = 2 }, func(c *api.Config) { c.Parts[1].Period = 12 }, func(c *api.Config) { c.Parts[1].Sched = false }, func(c *api.Config) { c.Parts[1].Stop = true }, func(c *api.Config) { c.Parts[1].Sched, c.Parts[1].Stop = false, true },
		func(c *api.Config) { c.Parts[2].Procs[0].Entry = 510 }, func(c *api.Config) { c.Parts[2].Procs[2].Prio = 8 }, func(c *api.Config) { c.Parts[2].Procs = c.Parts[2].Procs[:2] }, func(c *api.Config) { c.Parts[2].Procs = append(c.Parts[2].Procs, api.Proc{}) }, func(c *api.Config) { c.Parts[2].Procs = nil },
		func(c *api.Config) { c.Parts[5].Health[0] = 1 }, func(c *api.Config) { c.Parts[5].Health[4] = 1 },
		func(c *api.Config) { c.Parts[0], c.Parts[5] = c.Parts[5], c.Parts[0] }, func(c *api.Config) { c.Parts = c.Parts[:5] }, func(c *api.Config) { c.Parts = append(c.Parts, api.Part{}) }, func(c *api.Config) { c.Parts = nil },
		func(c *api.Config) { c.Chans[0].From = 2 }, func(c *api.Config) { c.Chans[7].To = 2 }, func(c *api.Config) { c.Chans[1].Queue = true }, func(c *api.Config) { c.Chans[0].Cap = 7 }, func(c *api.Config) { c.Chans[7].Max = 4 }, func(c *api.Config) { c.Chans[7].Late = 1 },
		func(c *api.Config) { c.Chans[0], c.Chans[7] = c.Chans[7], c.Chans[0] }, func(c *api.Config) { c.Chans = c.Chans[:7] }, func(c *api.Config) { c.Chans = append(c.Chans, api.Chan{}) }, func(c *api.Config) { c.Chans = nil },
		func(c *api.Config) { c.Tables[1][1].Part = 2 }, func(c *api.Config) { c.Tables[1][8].N = 4 }, func(c *api.Config) { c.Tables[1][3].Kind = api.Window }, func(c *api.Config) { c.Tables[2][0].N = 2 },
		func(c *api.Config) { c.Tables[0], c.Tables[1] = c.Tables[1], c.Tables[0] }, func(c *api.Config) { c.Tables = c.Tables[:2] }, func(c *api.Config) { c.Tables = append(c.Tables, nil) }, func(c *api.Config) { c.Tables = nil }, func(c *api.Config) { c.Tables[2] = nil }, func(c *api.Config) { c.Tables[0] = c.Tables[0][:7] }, func(c *api.Config) { c.Tables[0] = append(c.Tables[0], api.Node{}) },
		// As long, and yet another table.
		func(c *api.Config) { c.Tables[0] = times(1, c.Tables[0]) }, func(c *api.Config) { c.Tables[0] = seq(c.Tables[0]) },
	} {
		if config.Same(with(f), full()) || config.Same(full(), with(f)) {
			t.Errorf("Same, thing %d", i)
		}
		same(t, with(f), with(f), true)
	}
}

// TestNothing: R4: nil and empty mean the same, wherever they stand, and so does what has room.
func TestNothing(t *testing.T) {
	some := []api.Config{
		{}, {Parts: []api.Part{}}, {Chans: []api.Chan{}}, {Tables: [][]api.Node{}}, {Parts: []api.Part{}, Chans: []api.Chan{}, Tables: [][]api.Node{}}, sample.RoomyModule(api.Config{}, full()),
	}
	for _, a := range some {
		is(t, a, api.ErrLong, 0)
		for _, b := range some {
			same(t, a, b, true)
		}
		same(t, config.Copy(a), a, true)
		same(t, a, full(), false)
	}
	inner := []api.Config{
		{Parts: make([]api.Part, 2), Tables: make([][]api.Node, 2)}, {Parts: []api.Part{{Procs: []api.Proc{}}, {}}, Tables: [][]api.Node{{}, nil}}, {Parts: []api.Part{{}, {Procs: make([]api.Proc, 3)[:0]}}, Chans: []api.Chan{}, Tables: [][]api.Node{nil, make([]api.Node, 9)[:0]}},
	}
	for _, a := range inner {
		is(t, a, api.ErrName, 0)
		for _, b := range inner {
			same(t, a, b, true)
		}
		same(t, config.Copy(a), a, true)
		same(t, a, some[0], false)
		same(t, a, api.Config{Parts: slices.Concat(a.Parts, a.Parts[:1]), Tables: a.Tables}, false)
		same(t, a, api.Config{Parts: a.Parts, Tables: a.Tables[:1]}, false)
	}
}
