package sample

import (
	"slices"
)

// Picture is m row by row: 1 is true, a point is false.
func Picture(m [][]bool) string {
	var out []byte
	for at, row := range m {
		if at > 0 {
			out = append(out, ' ')
		}
		for _, x := range row {
			if x {
				out = append(out, '1')
			} else {
				out = append(out, '.')
			}
		}
	}
	return string(out)
}

// Square is the rows of a picture.
func Square(s string) [][]bool {
	var out [][]bool
	var row []bool
	for _, x := range []byte(s) {
		if x == ' ' {
			out, row = append(out, row), nil
			continue
		}
		row = append(row, x == '1')
	}
	if len(s) > 0 {
		out = append(out, row)
	}
	return out
}

// Pairs is the square of what is told of each two of n.
func Pairs(n int, told func(a, b int) bool) [][]bool {
	out := make([][]bool, n)
	for a := range n {
		for b := range n {
			out[a] = append(out[a], told(a, b))
		}
	}
	return out
}

// Dependences: none, with room behind it, too small, too large, not square, one way alone.
func Dependences() [][][]bool {
	out := [][][]bool{nil, {}, {nil}, {nil, nil, nil}, {{}, {}, {}, {}, {}, {}, {}, {}}, RoomyRows(Square("1. .1"))}
	for _, s := range []string{
		"1", ".", "1. .1", "11 11", ".1 1.", ".. ..", ".1 ..", ".. 1.", "11. 111 .11", "..1 ... ...", "... ... 1..", "... ... .1.",
		".1", "..1", ".....1", "1.....1", "......1", ". 1", ". . 11", ".11 . .", ". 1 11 111", ". 11 1 ..1", "..1 1", "1 .11 ... 1..1", "...1 . . .", "1 1 1 1 1 1", "1 1 1 1 1 1 1 1",
		"111111 111111 111111 111111 111111 111111", "...... ...... ...... ...... ...... ......", ".11111 ..1111 ...111 ....11 .....1 ......", "...... ...... ...... ...... ...... 1....1", ".....1 ...... ...... ...... ...... ......",
		"......11 ......11 ........ ........ ........ ........ 11.....1 11....1.", "........ ........ ........ ........ ........ ........ 11111111 11111111", "......1 .......1 1", "1111111111",
	} {
		out = append(out, Square(s))
	}
	return out
}

// Squares: each dependence of n that says the same either way.
func Squares(n int) [][][]bool {
	var two [][2]int
	for a := range n {
		for b := range a {
			two = append(two, [2]int{b, a})
		}
	}
	var out [][][]bool
	for bits := range 1 << len(two) {
		out = append(out, Pairs(n, func(a, b int) bool {
			at := slices.Index(two, [2]int{min(a, b), max(a, b)})
			return a == b || bits>>at&1 == 1
		}))
	}
	return out
}

// RoomyRows is m with room behind each row, and rows behind it, all of them true.
func RoomyRows(m [][]bool) [][]bool {
	full := slices.Repeat([]bool{true}, len(m)+3)
	var out [][]bool
	for _, row := range m {
		out = append(out, Roomy(row, full))
	}
	return Roomy(out, [][]bool{slices.Clone(full), slices.Clone(full)[:len(m)], nil})
}

// WholeRows is a copy of m, all room included.
func WholeRows(m [][]bool) [][]bool {
	var out [][]bool
	for _, row := range Whole(m) {
		out = append(out, slices.Clone(Whole(row)))
	}
	return out
}

// Turn turns all of m about, row by row, all room included; where no row is, one is put.
func Turn(m [][]bool) {
	for at, row := range Whole(m) {
		for i := range Whole(row) {
			Whole(row)[i] = !Whole(row)[i]
		}
		if row == nil {
			Whole(m)[at] = []bool{true}
		}
	}
}
