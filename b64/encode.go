package b64

// A text grows by one character of its alphabet at a time.
type text struct {
	alphabet string
	out      []byte
}

// add appends the character that stands for six bits.
func (t *text) add(six byte) {
	t.out = append(t.out, t.alphabet[six])
}

func encoded(b []byte, alphabet string) string {
	t := text{alphabet: alphabet}
	eachSix(b, t.add)
	return string(t.out)
}

// eachSix passes the bits of b, six at a time, to add; bits 0 fill up the last six.
func eachSix(b []byte, add func(six byte)) {
	var bits uint32 // those that are not passed yet are the lowest; the ones above them are spent
	left := 0
	for _, x := range b {
		bits = bits<<8 | uint32(x)
		left += 8
		for left >= 6 {
			left -= 6
			add(byte(bits>>left) & 63)
		}
	}
	if left > 0 {
		add(byte(bits<<(6-left)) & 63)
	}
}
