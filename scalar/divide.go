package scalar

import "math/bits"

// A words is a number of four words, the least significant first.
type words [4]uint64

// order returns L.
func order() words {
	return words{0x5812631a5cf5d3ed, 0x14def9dea2f79cd6, 0, 0x1000000000000000}
}

// rest returns the remainder modulo L: a long division whose step, a method value, takes in one bit after the other.
func (n wide) rest() words {
	var r words
	step := r.step
	for i := 8*wideBytes - 1; i >= 0; i-- {
		step(n.bit(i))
	}
	return r
}

// step makes r, which is less than L, the remainder of 2r + bit, which is less than 2L: L goes into it once or not at all.
func (r *words) step(bit uint64) {
	carry := bit
	for i, x := range r {
		r[i], carry = bits.Add64(x, x, carry)
	}
	if n, borrow := r.minus(order()); borrow == 0 {
		*r = n
	}
}

// minus returns the difference modulo 2^256, and the borrow.
func (r words) minus(m words) (words, uint64) {
	borrow := uint64(0)
	for i := range r {
		r[i], borrow = bits.Sub64(r[i], m[i], borrow)
	}
	return r, borrow
}

func (r words) num() Num {
	var a Num
	for i := range a {
		a[i] = byte(r[i/8] >> (i % 8 * 8))
	}
	return a
}
