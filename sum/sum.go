// Package sum: a sum of 32 bits: see doc/01-sum.md.
package sum

const (
	poly  = 0x04c11db7
	width = 4 // bytes of a sum
)

// Of is the sum of b.
func Of(b []byte) uint32 {
	c := ^uint32(0)
	for _, x := range b {
		c = Next(c, x)
	}
	return ^c
}

// Next is the sum c, not yet turned, with one byte more.
func Next(c uint32, b byte) uint32 {
	c ^= uint32(b) << 24
	for range 8 {
		top := c >> 31
		c <<= 1
		if top == 1 {
			c ^= poly
		}
	}
	return c
}

// Seal is b with its sum behind it.
func Seal(b []byte) []byte {
	// Appending to b itself would write into its spare room.
	s := make([]byte, len(b), len(b)+width)
	copy(s, b)
	c := Of(b)
	return append(s, byte(c>>24), byte(c>>16), byte(c>>8), byte(c))
}

// Open is what was sealed, if it is as it was then.
func Open(b []byte) ([]byte, bool) {
	n := len(b) - width
	if n < 0 || Of(b[:n]) != read(b[n:]) {
		return nil, false
	}
	// A piece of b would hand b's own memory out.
	out := make([]byte, n)
	copy(out, b)
	return out, true
}

// read is the sum that stands in b, the highest byte first.
func read(b []byte) uint32 {
	var c uint32
	for _, x := range b {
		c = c<<8 | uint32(x)
	}
	return c
}
