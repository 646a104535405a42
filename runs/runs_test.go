package runs_test

import (
	"math"
	"math/big"
	"slices"
	"testing"

	"horarium/api"
	"horarium/runs"
	"horarium/sample"
)

// Short names of what sample makes.
var (
	row         = sample.Row
	word        = sample.Ticks
	roomy       = sample.Roomy[api.Run]
	whole       = sample.Whole[api.Run]
	window      = sample.Window
	idle        = sample.Idle
	seq, times  = sample.Seq, sample.Times
	chain, wide = sample.Chain, sample.Wide
)

const (
	greatest = math.MaxInt64
	least    = math.MinInt64
)

// sum is the ticks of l by numbers of any size: another way than the package's, so that a slip in one is not in both.
func sum(l []api.Run) *big.Int {
	out := new(big.Int)
	for _, x := range l {
		if x.N > 0 {
			out.Add(out, big.NewInt(x.N))
		}
	}
	return out
}

// held is the ticks of l, or the greatest number.
func held(l []api.Run) int64 {
	if n := sum(l); n.IsInt64() {
		return n.Int64()
	}
	return greatest
}

// without is l less those that is tells.
func without(l []api.Run, is func(x api.Run) bool) []api.Run {
	return slices.DeleteFunc(slices.Clone(l), is)
}

// tidied is what Tidy must answer: the first run with all that go on with its Part, then so of the rest.
func tidied(l []api.Run) []api.Run {
	var out []api.Run
	l = without(l, func(x api.Run) bool { return x.N <= 0 })
	for len(l) > 0 {
		n := 1
		for n < len(l) && l[n].Part == l[0].Part {
			n++
		}
		out = append(out, api.Run{Part: l[0].Part, N: held(l[:n])})
		l = l[n:]
	}
	return out
}

// ends is where each run of l ends, by numbers of any size.
func ends(l []api.Run) []*big.Int {
	var out []*big.Int
	end := new(big.Int)
	for i := range l {
		end = new(big.Int).Add(end, sum(l[i:i+1]))
		out = append(out, end)
	}
	return out
}

// whose is what At must answer: the Part of the first run that ends above t.
func whose(l []api.Run, ends []*big.Int, t int64) int {
	if t < 0 {
		return -1
	}
	at := slices.IndexFunc(ends, func(end *big.Int) bool { return end.Cmp(big.NewInt(t)) > 0 })
	if at < 0 {
		return -1
	}
	return l[at].Part
}

// may is what Right must answer.
func may(l []api.Run) bool {
	bad := func(x api.Run) bool {
		return x.N <= 0 || x.N > 4096 || !slices.Contains([]int{-1, 0, 1, 2, 3, 4, 5}, x.Part)
	}
	return 0 < len(l) && len(l) < 97 && !slices.ContainsFunc(l, bad) && sum(l).Cmp(big.NewInt(4096)) <= 0
}

// far are numbers that ticks and Parts seldom have.
func far() []int64 {
	return []int64{
		-1, -2, -4096, math.MinInt32, -1 << 32, least + 1, least,
		6, 7, 4095, 4096, 4097, math.MaxInt32, 1 << 31, 1 << 32, 1<<32 + 1, 1 << 62, greatest - 1, greatest,
	}
}

// agree: every call answers of l what the second reckoning does.
func agree(t *testing.T, l []api.Run) {
	t.Helper()
	tidy := tidied(l)
	if got := runs.Tidy(l); !slices.Equal(got, tidy) {
		t.Errorf("Tidy(%.300v): %.300v, want %.300v", l, got, tidy)
	}
	if got, want := runs.Right(l), may(l); got != want {
		t.Errorf("Right(%.300v): %v", l, got)
	}
	if got, want := runs.Length(l), held(l); got != want {
		t.Errorf("Length(%.300v): %d, want %d", l, got, want)
	}
	switches := len(without(tidy, func(x api.Run) bool { return x.Part == -1 }))
	if got := runs.Switches(l); got != switches {
		t.Errorf("Switches(%.300v): %d, want %d", l, got, switches)
	}
	if !runs.Same(l, slices.Clone(l)) {
		t.Errorf("Same of %.300v and itself: false", l)
	}
	parts(t, l)
	ats(t, l)
}

// parts: Ticks of each Part that l has, and of others.
func parts(t *testing.T, l []api.Run) {
	t.Helper()
	some := []int{-1, 0, 1, 2, 3, 4, 5}
	for _, n := range far() {
		some = append(some, int(n))
	}
	for _, x := range l {
		some = append(some, x.Part)
	}
	slices.Sort(some)
	for _, part := range slices.Compact(some) {
		want := held(without(l, func(x api.Run) bool { return x.Part != part }))
		if got := runs.Ticks(l, part); got != want {
			t.Errorf("Ticks(%.300v, %d): %d, want %d", l, part, got, want)
		}
	}
}

// ats: At of far ticks, of those beside each run's end, and, of a row that is not too long, of each tick that there is.
func ats(t *testing.T, l []api.Run) {
	t.Helper()
	some, all := append(far(), 0, 1), ends(l)
	for _, end := range all {
		if end.IsInt64() {
			// Behind the greatest number comes the least: a tick as good as others.
			n := end.Int64()
			some = append(some, n-1, n, n+1)
		}
	}
	slices.Sort(some)
	for _, at := range slices.Compact(some) {
		if got, want := runs.At(l, at), whose(l, all, at); got != want {
			t.Errorf("At(%.300v, %d): %d, want %d", l, at, got, want)
		}
	}
	if held(l) > 5000 {
		return
	}
	for at, want := range word(l) {
		if got := runs.At(l, int64(at)); got != want {
			t.Errorf("At(%.300v, %d): %d, want %d", l, at, got, want)
		}
	}
}

// TestRuns: the chapter's run and examples.
func TestRuns(t *testing.T) {
	if got := runs.Tidy(row(0, 2, 0, 3)); !slices.Equal(got, row(0, 5)) {
		t.Errorf("Tidy((0, 2), (0, 3)): %v", got)
	}
	for _, l := range [][]api.Run{nil, {}} {
		if runs.Right(l) {
			t.Error("Right(nothing): true")
		}
		if len(runs.Tidy(l)) > 0 || runs.Length(l) != 0 || runs.Switches(l) != 0 || runs.Ticks(l, 0) != 0 || runs.Ticks(l, -1) != 0 || runs.At(l, 0) != -1 {
			t.Errorf("of nothing: %v, %d, %d", runs.Tidy(l), runs.Length(l), runs.Switches(l))
		}
		agree(t, l)
	}
	if got := runs.Switches(row(-1, 7)); got != 0 {
		t.Errorf("Switches of an idle frame: %d", got)
	}
}

func TestOrdinary(t *testing.T) {
	for _, c := range []struct {
		l, tidy  []api.Run
		word     []int
		switches int
		right    bool
	}{
		{row(0, 1), row(0, 1), []int{0}, 1, true},
		{row(5, 3), row(5, 3), []int{5, 5, 5}, 1, true},
		{row(-1, 2), row(-1, 2), []int{-1, -1}, 0, true},
		{row(0, 1, 1, 2), row(0, 1, 1, 2), []int{0, 1, 1}, 2, true},
		{row(0, 1, 1, 1, 0, 1), row(0, 1, 1, 1, 0, 1), []int{0, 1, 0}, 3, true},
		{row(0, 2, -1, 1, 0, 1), row(0, 2, -1, 1, 0, 1), []int{0, 0, -1, 0}, 2, true},
		{row(-1, 1, 3, 1, -1, 2), row(-1, 1, 3, 1, -1, 2), []int{-1, 3, -1, -1}, 1, true},
		{row(0, 2, 0, 3), row(0, 5), []int{0, 0, 0, 0, 0}, 1, true},
		{row(0, 1, 0, 1, 0, 1, 1, 1), row(0, 3, 1, 1), []int{0, 0, 0, 1}, 2, true},
		{row(2, 1, -1, 1, -1, 2, 2, 1), row(2, 1, -1, 3, 2, 1), []int{2, -1, -1, -1, 2}, 2, true},
		{row(-1, 1, -1, 1), row(-1, 2), []int{-1, -1}, 0, true},
		{row(0, 2, 1, 0, 0, 3), row(0, 5), []int{0, 0, 0, 0, 0}, 1, false},
		{row(0, 1, 1, -7, -1, 0, 0, 1), row(0, 2), []int{0, 0}, 1, false},
		{row(0, 1, 0, 0, 1, 1), row(0, 1, 1, 1), []int{0, 1}, 2, false},
		{row(1, 0, 0, 1), row(0, 1), []int{0}, 1, false},
		{row(1, -1, 1, 0, 0, 1, 0, 1), row(0, 2), []int{0, 0}, 1, false},
		{row(0, 1, 1, 0), row(0, 1), []int{0}, 1, false},
		{row(0, 1, 1, least), row(0, 1), []int{0}, 1, false},
		{row(0, 0), nil, nil, 0, false},
		{row(0, 0, 1, -1, -1, 0), nil, nil, 0, false},
		{row(-1, 1, 4, 0, -1, 1), row(-1, 2), []int{-1, -1}, 0, false},
		{row(7, 1, -9, 2, -9, 1), row(7, 1, -9, 3), []int{7, -9, -9, -9}, 2, false},
	} {
		if got := runs.Tidy(c.l); !slices.Equal(got, c.tidy) || runs.Switches(c.l) != c.switches || runs.Right(c.l) != c.right || runs.Length(c.l) != int64(len(c.word)) {
			t.Errorf("%v: Tidy %v, Switches %d, Right %v, Length %d", c.l, got, runs.Switches(c.l), runs.Right(c.l), runs.Length(c.l))
		}
		if !slices.Equal(word(c.l), c.word) || !slices.Equal(tidied(c.l), c.tidy) {
			t.Errorf("the second reckoning of %v: %v, %v", c.l, word(c.l), tidied(c.l))
		}
		agree(t, c.l)
	}
}

// TestRows: drawn rows; what is tidy stays, and is tidy.
func TestRows(t *testing.T) {
	for _, l := range sample.Rows() {
		agree(t, l)
		tidy := runs.Tidy(l)
		agree(t, tidy)
		if again := runs.Tidy(tidy); !slices.Equal(again, tidy) {
			t.Errorf("Tidy of the tidy %v: %v", tidy, again)
		}
		if !slices.Equal(word(tidy), word(l)) {
			t.Errorf("Tidy(%v) has other ticks: %v", l, tidy)
		}
		for i, x := range tidy {
			if x.N < 1 || i > 0 && tidy[i-1].Part == x.Part {
				t.Errorf("Tidy(%v), not tidy: %v", l, tidy)
			}
		}
	}
}

// TestEach: each row of up to four runs, right ones and wrong ones.
func TestEach(t *testing.T) {
	some := row(-1, 1, -1, 0, 0, 1, 0, 3, 0, 0, 0, -2, 1, 2, 1, least, 5, 4095, 6, 1, 0, greatest, 1, greatest)
	for _, l := range sample.Each(some, 4) {
		agree(t, l)
	}
}

// right: Right of l is want.
func right(t *testing.T, what string, l []api.Run, want bool) {
	t.Helper()
	if runs.Right(l) != want {
		t.Errorf("%s: Right %v", what, !want)
	}
	agree(t, l)
}

// alternate is so many runs of 0 and 1 by turns, each of n ticks.
func alternate(how int, n int64) []api.Run {
	return slices.Repeat(row(0, n, 1, n), how/2+1)[:how]
}

// TestLimits: Right at each of its limits, and one beyond.
func TestLimits(t *testing.T) {
	right(t, "95 runs", alternate(95, 1), true)
	right(t, "96 runs", alternate(96, 1), true)
	right(t, "97 runs", alternate(97, 1), false)
	right(t, "96 runs of one Part", slices.Repeat(row(3, 1), 96), true)
	right(t, "97 runs of one Part", slices.Repeat(row(3, 1), 97), false)
	right(t, "many", alternate(500, 1), false)
	for _, part := range []int64{-1, 0, 1, 2, 3, 4, 5} {
		right(t, "a Part", row(part, 1), true)
		right(t, "a Part behind", row(0, 1, part, 2), true)
		right(t, "N 0", row(part, 0), false)
		right(t, "N 1", row(part, 1), true)
		right(t, "N 4096", row(part, 4096), true)
		right(t, "N 4097", row(part, 4097), false)
	}
	for _, part := range []int64{-2, -3, 6, 7, 128, 1 << 32, 1<<32 + 1, -1 << 32, greatest, least} {
		right(t, "no Part", row(part, 1), false)
		right(t, "no Part ahead", row(part, 1, 0, 1), false)
		right(t, "no Part behind", row(0, 1, 1, 1, part, 1), false)
	}
	for _, n := range []int64{0, -1, -4096, least, least + 1, 1 << 32, 1<<32 + 1, -1<<32 + 1, greatest} {
		right(t, "no N", row(0, n), false)
		right(t, "no N, idle", row(-1, n), false)
		right(t, "no N ahead", row(0, n, 1, 1), false)
		right(t, "no N behind", row(0, 1, 1, 1, 0, n), false)
	}
	right(t, "4096 ticks", row(0, 4000, 1, 96), true)
	right(t, "4097 ticks", row(0, 4000, 1, 97), false)
	right(t, "4096 ticks, idle ones too", row(0, 1, -1, 4095), true)
	right(t, "4097 ticks, idle ones too", row(0, 1, -1, 4096), false)
	right(t, "4096 ticks of one Part", row(0, 2048, 0, 2048), true)
	right(t, "4097 ticks of one Part", row(0, 2048, 0, 2049), false)
	right(t, "96 runs, 4032 ticks", alternate(96, 42), true)
	right(t, "96 runs, 4096 ticks", append(alternate(95, 43), row(0, 11)...), true)
	right(t, "96 runs, 4097 ticks", append(alternate(95, 43), row(0, 12)...), false)
	right(t, "96 runs of 4096 ticks", alternate(96, 4096), false)
	right(t, "4097 ticks, and -1", row(0, 4096, 1, 1, 0, -1), false)
	right(t, "ticks that wrap round to 4", row(0, greatest, 1, greatest, 0, 6), false)
}

// TestGreat: sums that pass the greatest number are held there, Tidy's too; At goes on beyond.
func TestGreat(t *testing.T) {
	for _, c := range []struct {
		l, tidy []api.Run
		ticks   int64 // of Part 0
		length  int64
	}{
		{row(0, greatest), row(0, greatest), greatest, greatest},
		{row(0, greatest, 0, 1), row(0, greatest), greatest, greatest},
		{row(0, 1, 0, greatest), row(0, greatest), greatest, greatest},
		{row(0, greatest-1, 0, 1), row(0, greatest), greatest, greatest},
		{row(0, greatest-2, 0, 1), row(0, greatest-1), greatest - 1, greatest - 1},
		{row(0, greatest, 0, greatest, 0, greatest), row(0, greatest), greatest, greatest},
		{row(0, 1<<62, 0, 1<<62), row(0, greatest), greatest, greatest},
		{row(0, 1<<62, 0, 1<<62-1), row(0, greatest), greatest, greatest},
		{row(0, 1<<62, 0, 1<<62-2), row(0, greatest-1), greatest - 1, greatest - 1},
		{row(0, greatest, 1, 1), row(0, greatest, 1, 1), greatest, greatest},
		{row(0, 2, 1, greatest, 0, 3), row(0, 2, 1, greatest, 0, 3), 5, greatest},
		{row(0, greatest, 1, greatest, 0, greatest), row(0, greatest, 1, greatest, 0, greatest), greatest, greatest},
		{row(0, greatest, 1, -1, 0, -greatest, 0, 5), row(0, greatest), greatest, greatest},
		{row(0, greatest, 0, least), row(0, greatest), greatest, greatest},
		{row(0, least, 0, least), nil, 0, 0},
		{row(0, least, 0, 4, 1, least, 0, least), row(0, 4), 4, 4},
		{slices.Repeat(row(0, 1<<60), 8), row(0, greatest), greatest, greatest},
		{slices.Repeat(row(0, 1<<60), 7), row(0, 7<<60), 7 << 60, 7 << 60},
		{slices.Repeat(row(0, 1<<60), 40), row(0, greatest), greatest, greatest},
	} {
		if got := runs.Tidy(c.l); !slices.Equal(got, c.tidy) || runs.Ticks(c.l, 0) != c.ticks || runs.Length(c.l) != c.length {
			t.Errorf("%v: Tidy %v, Ticks %d, Length %d", c.l, got, runs.Ticks(c.l, 0), runs.Length(c.l))
		}
		agree(t, c.l)
	}
	for at, want := range map[int64]int{0: 3, greatest - 1: 3, greatest: 4} {
		if got := runs.At(row(3, greatest, 4, 1), at); got != want {
			t.Errorf("At %d: %d", at, got)
		}
	}
	if got := runs.At(row(3, 1, 1, least, 4, greatest), greatest); got != 4 {
		t.Errorf("At beyond a run of the least N: %d", got)
	}
	long := slices.Repeat(row(0, 1, 1, 1, -1, 0, 1, 2), 1<<16)
	if got := runs.Tidy(long); len(got) != 1<<17 || got[1<<17-1] != (api.Run{Part: 1, N: 3}) || runs.Length(long) != 1<<18 || runs.Switches(long) != 1<<17 || runs.At(long, 1<<18-4) != 0 {
		t.Errorf("2^18 runs: %d, %d, %d", len(got), runs.Length(long), runs.Switches(long))
	}
}

// TestIdle: Switches of idle frames, and of rows that are not tidy.
func TestIdle(t *testing.T) {
	for _, c := range []struct {
		l    []api.Run
		want int
	}{
		{row(-1, 1), 0}, {row(-1, 4096), 0}, {row(-1, 1, -1, 2, -1, 3), 0}, {row(-1, greatest, -1, greatest), 0}, {row(-1, 0), 0},
		{row(-1, 1, 0, 0, -1, 1), 0}, {row(0, 0, 1, -1), 0}, {row(0, 1, 0, 1, 0, 1), 1}, {row(0, 1, -1, 0, 0, 1), 1}, {row(0, 1, -1, 1, 0, 1), 2},
		{row(0, 1, 1, 0, 0, 1, 1, 1, 1, 1), 2}, {row(-2, 1, 6, 1), 2}, {alternate(200, 1), 200},
	} {
		if got := runs.Switches(c.l); got != c.want {
			t.Errorf("Switches(%v): %d, want %d", c.l, got, c.want)
		}
		agree(t, c.l)
	}
}

// TestSame: rows alike, and unlike in each thing.
func TestSame(t *testing.T) {
	for _, l := range append(sample.Rows(), row(0, greatest, least, least), alternate(97, 1)) {
		if !runs.Same(l, l) || !runs.Same(l, slices.Clip(slices.Clone(l))) {
			t.Errorf("Same of a row and itself: %v", l)
		}
		for n := range l {
			if runs.Same(l, l[:n]) || runs.Same(l[:n], l) {
				t.Errorf("Same of a beginning of %d: %v", n, l)
			}
		}
		for at, x := range l {
			for _, other := range []api.Run{{Part: x.Part ^ 1, N: x.N}, {Part: x.Part, N: x.N ^ 1}, {Part: x.Part ^ 1<<40, N: x.N}, {Part: x.Part, N: x.N ^ 1<<40}} {
				unlike := slices.Clone(l)
				unlike[at] = other
				if runs.Same(l, unlike) || runs.Same(unlike, l) {
					t.Errorf("Same with %v at %d: %v", other, at, l)
				}
			}
		}
	}
	if !runs.Same(nil, nil) || !runs.Same(nil, []api.Run{}) || !runs.Same([]api.Run{}, nil) {
		t.Error("Same of nothing and nothing: false")
	}
	// As many ticks of each, and yet another row.
	for _, c := range [][2][]api.Run{
		{nil, row(0, 1)}, {nil, row(0, 0)}, {row(0, 2), row(0, 1, 0, 1)}, {row(0, 1, 1, 1), row(1, 1, 0, 1)}, {row(0, 1), row(0, 1, 1, 0)},
		{row(0, 1, 1, 0, 0, 1), row(0, 2)}, {row(0, 0), row(0, -1)}, {row(-1, 1), row(0, 1)}, {row(0, 1, 0, 2), row(0, 2, 0, 1)},
	} {
		if runs.Same(c[0], c[1]) || runs.Same(c[1], c[0]) {
			t.Errorf("Same(%v, %v): true", c[0], c[1])
		}
	}
}

// TestNotChanged: R2, R5: what is handed in stays, and its spare room is neither read nor written.
func TestNotChanged(t *testing.T) {
	for _, l := range append(sample.Rows()[:80], row(0, greatest, 0, 1, 0, least)) {
		for _, more := range [][]api.Run{row(0, 1), make([]api.Run, 9), row(-1, 2, 0, 1, 1, 1, 2, greatest)} {
			for n := range len(l) + 1 {
				in := roomy(l[:n], slices.Concat(l[n:], more))
				was := slices.Clone(whole(in))
				agree(t, in)
				if !runs.Same(in, l[:n]) || !runs.Same(l[:n], in) {
					t.Errorf("Same hangs on the room behind %v", in)
				}
				if !slices.Equal(whole(in), was) {
					t.Errorf("%v was changed", was)
				}
			}
		}
	}
}

// scribble turns all of l, its room too, into other runs.
func scribble(l []api.Run) {
	for i := range whole(l) {
		whole(l)[i] = api.Run{Part: 4, N: 9}
	}
}

// TestNotKept: R2: an answer of Tidy shares no memory with its argument or another answer, its spare room included.
func TestNotKept(t *testing.T) {
	for _, l := range append(sample.Rows()[:80], row(0, 1), row(0, 1, 1, 1), row(0, 2, 0, 3)) {
		in := roomy(l, row(1, 1, 0, 1, -1, 2))
		was, want := slices.Clone(whole(in)), tidied(l)
		first, second := runs.Tidy(in), runs.Tidy(in)
		scribble(first)
		if !slices.Equal(whole(in), was) {
			t.Errorf("Tidy(%v) hands its argument's memory out", l)
		}
		if !slices.Equal(second, want) || !slices.Equal(runs.Tidy(in), want) {
			t.Errorf("two answers share memory: Tidy(%v)", l)
		}
		room := slices.Clone(whole(second))
		scribble(in)
		if !slices.Equal(whole(second), room) {
			t.Errorf("Tidy(%v) hangs on its argument still", l)
		}
		// Another row in the same memory is told anew.
		agree(t, in)
	}
}
