package scalar

import "math/bits"

// A wide is a number of eight words, the least significant first: a * b + c has no more, whatever numbers of 256 bits they are.
type wide [8]uint64

const wideBytes = 64

// read returns the number that the first 64 bytes of b represent.
func read(b []byte) wide {
	var n wide
	for i, x := range b[:min(len(b), wideBytes)] {
		n[i/8] |= uint64(x) << (i % 8 * 8)
	}
	return n
}

func (n wide) bit(i int) uint64 { return n[i/64] >> (i % 64) & 1 }

// plus returns the sum of two numbers of 256 bits each.
func (n wide) plus(m wide) wide {
	carry := uint64(0)
	for i := range n {
		n[i], carry = bits.Add64(n[i], m[i], carry)
	}
	return n
}

// mulAdd returns a * b + c for numbers of 256 bits: their upper four words are 0.
func mulAdd(a, b, c wide) wide {
	for i, x := range a[:4] {
		out := uint64(0)
		for j, y := range b[:4] {
			c[i+j], out = mulAddWord(x, y, c[i+j], out)
		}
		c[i+4] = out
	}
	return c
}

// mulAddWord returns the lower and the upper word of a * b + c + d: even the greatest such number has no third.
func mulAddWord(a, b, c, d uint64) (low, high uint64) {
	high, low = bits.Mul64(a, b)
	low, carry := bits.Add64(low, c, 0)
	high += carry
	low, carry = bits.Add64(low, d, 0)
	return low, high + carry
}
