package sha

// feed passes to add the bytes that are hashed: those of b, and after them the padding, which fills the last block (of so many bytes) and ends with the number of bits of b (in so many bytes).
func feed(b [][]byte, block, length int, add func(x byte)) {
	count := uint64(0)
	for _, part := range b {
		for _, x := range part {
			add(x)
		}
		count += uint64(len(part))
	}
	pad(count, block, length, add)
}

// pad passes the padding of count bytes: the bit 1, as few bits 0 as are needed, and the length.
func pad(count uint64, block, length int, add func(x byte)) {
	add(0x80)
	for at := int((count + 1) % uint64(block)); at != block-length; at = (at + 1) % block {
		add(0)
	}
	bits := count * 8
	for i := length - 1; i >= 0; i-- {
		add(byte(bits >> (8 * i)))
	}
}
