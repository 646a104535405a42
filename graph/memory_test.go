package graph_test

import (
	"reflect"
	"slices"
	"testing"

	"horarium/api"
	"horarium/graph"
	"horarium/sample"
)

// roomy is c with room behind its lists, in which partitions and channels stand that would count for much.
func roomy(c api.Config) api.Config {
	return sample.RoomyModule(c, module("bst", queue(0, 1), queue(1, 2), queue(2, 3), last(3, 4), queue(len(c.Parts), 0)))
}

// TestNotChanged: R2, R5: what is handed in stays, and its spare room is neither read nor written.
func TestNotChanged(t *testing.T) {
	for _, c := range append(drawn(), module("---"), module("", queue(0, 1)), module("s-t", last(1, 2))) {
		in := roomy(c)
		was := whole(in)
		agree(t, in)
		if picture(graph.Depends(in)) != picture(graph.Depends(c)) || picture(graph.Sways(in)) != picture(graph.Sways(c)) {
			t.Errorf("an answer hangs on the room behind %v", c)
		}
		if !reflect.DeepEqual(whole(in), was) {
			t.Errorf("%v was changed", was)
		}
	}
}

// TestRowsNotChanged: R2, R5 of Closure, also where its argument's rows are one and the same.
func TestRowsNotChanged(t *testing.T) {
	for _, c := range drawn() {
		m := graph.Sways(c)
		in := roomyRows(m)
		was := wholeRows(in)
		closes(t, in)
		if !reflect.DeepEqual(wholeRows(in), was) {
			t.Errorf("%s was changed", picture(m))
		}
		if len(in) > 0 {
			// One row cut short, or one too few, with what is missing in its room: not square.
			in[0] = in[0][:len(m)-1]
			if got := graph.Closure(in); len(got) > 0 {
				t.Errorf("Closure of %s, its first row cut short: %s", picture(m), picture(got))
			}
			if got := graph.Closure(roomyRows(m)[:len(m)-1]); len(got) > 0 {
				t.Errorf("Closure of %s, without its last row: %s", picture(m), picture(got))
			}
		}
	}
	row := []bool{false, true, false, false}
	if got := picture(graph.Closure([][]bool{row, row, row, row})); got != ".1.. .1.. .1.. .1.." || picture([][]bool{row}) != ".1.." {
		t.Errorf("Closure of one row four times: %s", got)
	}
	// The rows lie one behind the other in one memory.
	line := []bool{false, true, false, false, false, true, true, false, false}
	if got := picture(graph.Closure([][]bool{line[:3], line[3:6], line[6:]})); got != "111 111 111" || picture([][]bool{line}) != ".1...11.." {
		t.Errorf("Closure of rows in one memory: %s, %s", got, picture([][]bool{line}))
	}
}

// apart: turning about a row of m, its room too, leaves all other rows and their room as they are.
func apart(t *testing.T, m [][]bool) {
	t.Helper()
	for at, row := range m {
		was := wholeRows(m)
		turn([][]bool{row})
		for other, x := range m {
			if other != at && !slices.Equal(sample.Whole(x), was[other]) {
				t.Errorf("rows %d and %d of %s share memory", at, other, picture(m))
			}
		}
		turn([][]bool{row})
	}
}

// TestNotKept: R2: an answer shares no memory with another one, nor its lists with each other, spare room included, and nothing is kept of what was handed in.
func TestNotKept(t *testing.T) {
	for _, c := range drawn()[:1000] {
		in := roomy(c)
		was := whole(in)
		rows := roomyRows(graph.Sways(c))
		for _, call := range []func() [][]bool{
			func() [][]bool { return graph.Depends(in) },
			func() [][]bool { return graph.Sways(in) },
			func() [][]bool { return graph.Closure(rows) },
		} {
			first, second := call(), call()
			apart(t, first)
			want, rowsWere := wholeRows(second), wholeRows(rows)
			turn(first)
			if !reflect.DeepEqual(wholeRows(second), want) || !reflect.DeepEqual(wholeRows(rows), rowsWere) || picture(call()) != picture(second) {
				t.Errorf("an answer of %v hangs on another one", c)
			}
			turn(rows)
			clear(sample.Whole(in.Parts))
			clear(sample.Whole(in.Chans))
			if !reflect.DeepEqual(wholeRows(second), want) {
				t.Errorf("an answer of %v hangs on its argument still", c)
			}
			// Another module in the same memory is judged anew.
			agree(t, in)
			closes(t, rows)
			turn(rows)
			copy(sample.Whole(in.Parts), was.Parts)
			copy(sample.Whole(in.Chans), was.Chans)
		}
		reaches(t, in)
	}
}

// reaches: the answers of Reach of c share no memory.
func reaches(t *testing.T, c api.Config) {
	t.Helper()
	for p := range c.Parts {
		first, second := graph.Reach(c, p), graph.Reach(c, p)
		want := slices.Clone(sample.Whole(second))
		for i := range sample.Whole(first) {
			sample.Whole(first)[i] = -9
		}
		if !slices.Equal(sample.Whole(second), want) || !slices.Equal(graph.Reach(c, p), second) {
			t.Errorf("Reach(%v, %d) hangs on another answer", c, p)
		}
	}
}
