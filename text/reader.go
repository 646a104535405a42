package text

// most is the greatest number that a text may tell, where nothing less is said.
const most = 1<<40 - 1

// reader goes through a text byte by byte.
type reader struct {
	rest string // what is still to come
	bad  bool   // was anything not there that must be?
}

// end: is nothing still to come?
func (r *reader) end() bool {
	return r.rest == ""
}

// done: was all gone through, and everything there?
func (r *reader) done() bool {
	return r.end() && !r.bad
}

// fail: something is not there. What is still to come is left out, so that whoever reads on finds nothing, and ends.
func (r *reader) fail() {
	r.rest, r.bad = "", true
}

// next goes through a byte; 0, which no word has, where there is none.
func (r *reader) next() byte {
	if r.end() {
		return 0
	}
	b := r.rest[0]
	r.rest = r.rest[1:]
	return b
}

// take: is b the next byte? Then it is gone through.
func (r *reader) take(b byte) bool {
	if r.end() || r.rest[0] != b {
		return false
	}
	r.rest = r.rest[1:]
	return true
}

// must goes through b, which has to be the next byte.
func (r *reader) must(b byte) {
	if !r.take(b) {
		r.fail()
	}
}

// upto goes through the bytes ahead of the next stop; through all, if there is none.
func (r *reader) upto(stop byte) string {
	n := 0
	for n < len(r.rest) && r.rest[n] != stop {
		n++
	}
	s := r.rest[:n]
	r.rest = r.rest[n:]
	return s
}

// number goes through a number, which is great at most.
func (r *reader) number(great int64) int64 {
	// A digit behind a nought is left where it is: nothing goes on with one.
	if r.take('0') {
		return 0
	}
	var n int64
	for !r.end() && r.rest[0] >= '0' && r.rest[0] <= '9' {
		n = n*10 + int64(r.next()-'0')
		// Asked digit by digit, for there may be more of them than n can hold.
		if n > great {
			r.fail()
		}
	}
	if n == 0 {
		r.fail()
	}
	return n
}
