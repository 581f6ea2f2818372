package utf

const (
	highSurrogate = 0xD800 // the first of the high surrogates
	lowSurrogate  = 0xDC00 // the first of the low surrogates, which follow the high ones
	pastSurrogate = 0xE000
	maxPoint      = 0x10FFFF
)

// point reads the code point whose encoding begins with the byte b; false if that is ill-formed.
func point(b byte, next advance) (rune, bool) {
	switch {
	case b < 0x80:
		return rune(b), true
	case b < 0xC0:
		return 0, false
	case b < 0xE0:
		return tail(rune(b&0x1F), 1, 0x80, next)
	case b < 0xF0:
		return tail(rune(b&0x0F), 2, 0x800, next)
	case b < 0xF8:
		return tail(rune(b&0x07), 3, 0x10000, next)
	}
	return 0, false
}

// tail adds more continuation bytes to the bits r of a first byte. A code point below least has a shorter form.
func tail(r rune, more int, least rune, next advance) (rune, bool) {
	for range more {
		b, ok := next()
		if !ok || b&0xC0 != 0x80 {
			return 0, false
		}
		r = r<<6 | rune(b&0x3F)
	}
	if r < least || r > maxPoint || isSurrogate(r) {
		return 0, false
	}
	return r, true
}

func isSurrogate(r rune) bool { return r >= highSurrogate && r < pastSurrogate }
