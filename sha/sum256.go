package sha

import (
	"math/bits"
)

const (
	block256  = 64 // bytes
	length256 = 8  // bytes of the message's length in the last block
	rounds256 = 64
)

type words256 [8]uint32

// A hash256 takes in one byte at a time, and mixes a block into its words as soon as the block is full.
type hash256 struct {
	words words256
	block [block256]byte
	at    int
}

func start256() words256 {
	var h words256
	for i := range h {
		h[i] = uint32(squareRoots[i] >> 32) // SHA-256 has the first 32 of the same bits
	}
	return h
}

func (h *hash256) add(x byte) {
	h.block[h.at] = x
	h.at++
	if h.at == block256 {
		h.at = 0
		h.mix()
	}
}

func (h *hash256) mix() {
	schedule := schedule256(h.block)
	v := h.words
	round := v.round
	for i, w := range schedule {
		round(w + uint32(cubeRoots[i]>>32))
	}
	for i, x := range v {
		h.words[i] += x
	}
}

// schedule256 makes the words of the rounds: those of the block, and each further one from four of those before it.
func schedule256(block [block256]byte) [rounds256]uint32 {
	var w [rounds256]uint32
	for i, x := range block {
		w[i/4] = w[i/4]<<8 | uint32(x)
	}
	for i := 16; i < rounds256; i++ {
		far, near := w[i-15], w[i-2]
		w[i] = w[i-16] + w[i-7] +
			(right32(far, 7) ^ right32(far, 18) ^ far>>3) +
			(right32(near, 17) ^ right32(near, 19) ^ near>>10)
	}
	return w
}

// round changes the eight words by one word of the schedule, to which the round's constant has been added.
func (v *words256) round(w uint32) {
	a, b, c, e, f, g := v[0], v[1], v[2], v[4], v[5], v[6]
	choice := e&f ^ ^e&g
	majority := a&b ^ a&c ^ b&c
	one := v[7] + (right32(e, 6) ^ right32(e, 11) ^ right32(e, 25)) + choice + w
	two := (right32(a, 2) ^ right32(a, 13) ^ right32(a, 22)) + majority
	*v = words256{one + two, a, b, c, v[3] + one, e, f, g}
}

func (h *hash256) digest() [32]byte {
	var out [32]byte
	for i := range out {
		out[i] = byte(h.words[i/4] >> (24 - i%4*8))
	}
	return out
}

func right32(x uint32, n int) uint32 { return bits.RotateLeft32(x, -n) }
