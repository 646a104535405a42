package config_test

import (
	"math/rand/v2"
	"slices"
	"testing"

	"horarium/api"
	"horarium/config"
	"horarium/sample"
)

// slip is what is told of x.
func slip(x sample.Slip) fault {
	return fault{x.Kind, x.Place, x.Step, x.Why}
}

// TestOne: each fault alone.
func TestOne(t *testing.T) {
	for _, c := range sample.Slippery() {
		is(t, c, api.OK, -1)
		for _, x := range sample.Slips(c) {
			one := config.Copy(c)
			x.Make(&one)
			is(t, one, x.Why, x.Place)
		}
	}
}

// TestTwo: of two faults the first in the document's order is told.
func TestTwo(t *testing.T) {
	told := map[[2]fault]bool{}
	for _, c := range sample.Slippery() {
		all := sample.Slips(c)
		for i, x := range all {
			for _, y := range all[i+1:] {
				if x.Kind == y.Kind && x.Place == y.Place && (x.Step == y.Step || x.Kind == 3) {
					continue
				}
				both := config.Copy(c)
				x.Make(&both)
				y.Make(&both)
				two := [2]fault{slip(x), slip(y)}
				why, at := first(two[:])
				is(t, both, why, at)
				told[two] = true
			}
		}
	}
	if len(told) < 500 {
		t.Errorf("no more than %d kinds of two", len(told))
	}
}

// TestWithin: of two faults of one table: what it is none for, a Part that is none, what does not hold.
func TestWithin(t *testing.T) {
	c := sample.Slippery()[1]
	late := []api.Chan{{From: 0, To: 1, Late: 1}}
	for _, x := range []struct {
		l     []api.Node
		chans []api.Chan
		why   api.Errno
	}{
		{seq(window(0, 1), window(3, 1))[:2], late, api.ErrForm}, {append(window(3, 1), window(3, 1)...), late, api.ErrForm}, {slices.Repeat(window(3, 1), 129), late, api.ErrLong}, {times(49, seq(window(0, 1), window(3, 1))), late, api.ErrLong}, {sample.Chain(16, 1, window(3, 1)), late, api.ErrDeep}, {window(3, 4097), late, api.ErrTable},
		{seq(window(0, 12), window(3, 1)), late, api.ErrPart}, {window(3, 12), nil, api.ErrPart}, {seq(window(3, 1), window(0, 12)), nil, api.ErrPart}, {seq(window(5, 12)), late, api.ErrPart},
		{window(0, 12), late, api.ErrLate}, {window(0, 12), nil, api.ErrShort}, {window(0, 5), late, api.ErrLate}, {window(0, 5), nil, api.ErrShort}, {seq(window(0, 6), window(1, 6)), late, api.ErrLate}, {seq(window(0, 6), window(1, 6)), nil, api.OK},
	} {
		one := config.Copy(c)
		one.Chans, one.Tables = x.chans, [][]api.Node{x.l}
		stands(t, x.why == api.OK, x.why, 0, one)
	}
}

// TestMany: drawn modules with up to a few faults at any places: what is told is that of the least place.
func TestMany(t *testing.T) {
	r := rand.New(rand.NewPCG(12, 1))
	often := map[api.Errno]int{}
	for _, c := range drawn(1, 4000) {
		is(t, c, api.OK, -1)
		for range 5 {
			bad := config.Copy(c)
			for range 1 + r.IntN(3) {
				sample.Muddle(r.IntN, &bad)
			}
			often[agree(t, bad)]++
		}
	}
	for _, why := range []api.Errno{api.OK, api.ErrLong, api.ErrName, api.ErrPart, api.ErrChan, api.ErrForm, api.ErrTable, api.ErrLate, api.ErrShort} {
		if often[why] < 100 {
			t.Errorf("no more than %d were answered %d", often[why], int(why))
		}
	}
}
