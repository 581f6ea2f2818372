package field

import "math/bits"

// A words is a number of four words, the least significant first. It may be any number of 256 bits; rest makes it less than P.
type words [4]uint64

// wrap is the remainder of 2^256: what leaves a number at its upper end comes back as so much.
const wrap = 38

// below returns 2^bit - n, for a bit from 193 to 256 and an n that is not 0.
func below(bit int, n uint64) words {
	const all uint64 = 1<<64 - 1
	return words{-n, all, all, all >> (256 - bit)}
}

func prime() words { return below(255, 19) }

func of(a Num) words {
	var n words
	for i := range n {
		n[i] = word(a[8*i : 8*i+8])
	}
	return n
}

// word is written out rather than a loop over its bytes: it is a good part of what a sum or a product costs.
func word(b []byte) uint64 {
	return uint64(b[7])<<56 | uint64(b[6])<<48 | uint64(b[5])<<40 | uint64(b[4])<<32 |
		uint64(b[3])<<24 | uint64(b[2])<<16 | uint64(b[1])<<8 | uint64(b[0])
}

func (n words) num() Num {
	var a Num
	for i, x := range n {
		for j := range 8 {
			a[8*i+j] = byte(x >> (8 * j))
		}
	}
	return a
}

func (n words) odd() bool { return n[0]&1 == 1 }

func (n words) bit(i int) bool { return n[i/64]>>(i%64)&1 == 1 }

func (n words) less(m words) bool {
	_, borrow := n.take(m)
	return borrow == 1
}

// plus returns the sum modulo 2^256, and the carry.
func (n words) plus(m words) (words, uint64) {
	carry := uint64(0)
	for i := range n {
		n[i], carry = bits.Add64(n[i], m[i], carry)
	}
	return n, carry
}

// take returns the difference modulo 2^256, and the borrow.
func (n words) take(m words) (words, uint64) {
	borrow := uint64(0)
	for i := range n {
		n[i], borrow = bits.Sub64(n[i], m[i], borrow)
	}
	return n, borrow
}

// minus returns the difference modulo P of two numbers less than P.
func (n words) minus(m words) words {
	d, borrow := n.take(m)
	if borrow == 1 {
		d, _ = d.plus(prime())
	}
	return d
}

// rest returns the remainder modulo P.
func (n words) rest() words {
	for range 2 { // 3P is more than 2^256
		m, borrow := n.take(prime())
		if borrow == 1 {
			return n
		}
		n = m
	}
	return n
}

// square makes n its own square, modulo P.
func (n *words) square() { n.times(*n) }

// times multiplies n by m, modulo P.
func (n *words) times(m words) {
	var product [8]uint64
	for i, x := range n {
		out := uint64(0)
		for j, y := range m {
			product[i+j], out = mulAdd(x, y, product[i+j], out)
		}
		product[i+4] = out
	}
	*n = fold(product)
}

// mulAdd returns the lower and the upper word of a * b + c + d: even the greatest such number has no third.
func mulAdd(a, b, c, d uint64) (low, high uint64) {
	high, low = bits.Mul64(a, b)
	low, carry := bits.Add64(low, c, 0)
	high += carry
	low, carry = bits.Add64(low, d, 0)
	return low, high + carry
}

// fold returns a number of four words with the same remainder.
func fold(wide [8]uint64) words {
	var n words
	out := uint64(0)
	for i := range n {
		n[i], out = mulAdd(wide[i+4], wrap, wide[i], out)
	}
	for out != 0 { // twice at most: out is at most 38, and if the first time makes a carry, what stays behind is too small for another
		n, out = n.plus(words{out * wrap})
	}
	return n
}
