package sha

import (
	"math/bits"
)

const (
	block512  = 128 // bytes
	length512 = 16  // bytes of the message's length in the last block
	rounds512 = 80
)

type words512 [8]uint64

// A hash512 takes in one byte at a time, and mixes a block into its words as soon as the block is full.
type hash512 struct {
	words words512
	block [block512]byte
	at    int
}

func start512() words512 {
	var h words512
	for i := range h {
		h[i] = squareRoots[i]
	}
	return h
}

func (h *hash512) add(x byte) {
	h.block[h.at] = x
	h.at++
	if h.at == block512 {
		h.at = 0
		h.mix()
	}
}

func (h *hash512) mix() {
	schedule := schedule512(h.block)
	v := h.words
	round := v.round
	for i, w := range schedule {
		round(w + cubeRoots[i])
	}
	for i, x := range v {
		h.words[i] += x
	}
}

// schedule512 makes the words of the rounds: those of the block, and each further one from four of those before it.
func schedule512(block [block512]byte) [rounds512]uint64 {
	var w [rounds512]uint64
	for i, x := range block {
		w[i/8] = w[i/8]<<8 | uint64(x)
	}
	for i := 16; i < rounds512; i++ {
		far, near := w[i-15], w[i-2]
		w[i] = w[i-16] + w[i-7] +
			(right64(far, 1) ^ right64(far, 8) ^ far>>7) +
			(right64(near, 19) ^ right64(near, 61) ^ near>>6)
	}
	return w
}

// round changes the eight words by one word of the schedule, to which the round's constant has been added.
func (v *words512) round(w uint64) {
	a, b, c, e, f, g := v[0], v[1], v[2], v[4], v[5], v[6]
	choice := e&f ^ ^e&g
	majority := a&b ^ a&c ^ b&c
	one := v[7] + (right64(e, 14) ^ right64(e, 18) ^ right64(e, 41)) + choice + w
	two := (right64(a, 28) ^ right64(a, 34) ^ right64(a, 39)) + majority
	*v = words512{one + two, a, b, c, v[3] + one, e, f, g}
}

func (h *hash512) digest() [64]byte {
	var out [64]byte
	for i := range out {
		out[i] = byte(h.words[i/8] >> (56 - i%8*8))
	}
	return out
}

func right64(x uint64, n int) uint64 { return bits.RotateLeft64(x, -n) }
