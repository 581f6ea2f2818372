package utf

const hexDigits = "0123456789abcdef"

// appendByte appends b as it stands in a literal. Bytes of longer encodings are all above 127, so each may be looked at alone.
func appendByte(out []byte, b byte) []byte {
	switch b {
	case '"', '\\':
		return append(out, '\\', b)
	case '\b':
		return append(out, '\\', 'b')
	case '\t':
		return append(out, '\\', 't')
	case '\n':
		return append(out, '\\', 'n')
	case '\f':
		return append(out, '\\', 'f')
	case '\r':
		return append(out, '\\', 'r')
	}
	if b < 32 {
		return append(out, '\\', 'u', '0', '0', hexDigits[b>>4], hexDigits[b&15])
	}
	return append(out, b)
}

// symbol reads the code point that begins with the byte b in a literal, encoded or as an escape.
func symbol(b byte, next advance) (rune, bool) {
	if b == '\\' {
		return escape(next)
	}
	return point(b, next)
}

// escape reads what follows a backslash.
func escape(next advance) (rune, bool) {
	b, _ := next() // at the end: 0, which is no escape
	switch b {
	case '"', '\\', '/':
		return rune(b), true
	case 'b':
		return '\b', true
	case 't':
		return '\t', true
	case 'n':
		return '\n', true
	case 'f':
		return '\f', true
	case 'r':
		return '\r', true
	case 'u':
		return numbered(next)
	}
	return 0, false
}

// numbered reads what follows `\u`: one code point, which takes a second such escape if the first is a high surrogate.
func numbered(next advance) (rune, bool) {
	r, ok := fourDigits(next)
	if !ok || !isSurrogate(r) {
		return r, ok
	}
	if r >= lowSurrogate {
		return 0, false
	}
	low, ok := lowHalf(next)
	if !ok {
		return 0, false
	}
	return 0x10000 + (r-highSurrogate)<<10 + (low - lowSurrogate), true
}

// lowHalf reads a whole escape that has to be a low surrogate.
func lowHalf(next advance) (rune, bool) {
	if b, _ := next(); b != '\\' {
		return 0, false
	}
	if b, _ := next(); b != 'u' {
		return 0, false
	}
	r, ok := fourDigits(next)
	if !ok || r < lowSurrogate || r >= pastSurrogate {
		return 0, false
	}
	return r, true
}

func fourDigits(next advance) (rune, bool) {
	var r rune
	for range 4 {
		b, _ := next() // at the end: 0, which is no digit
		d, ok := digit(b)
		if !ok {
			return 0, false
		}
		r = r<<4 | d
	}
	return r, true
}

func digit(b byte) (rune, bool) {
	switch {
	case b >= '0' && b <= '9':
		return rune(b - '0'), true
	case b >= 'a' && b <= 'f':
		return rune(b-'a') + 10, true
	case b >= 'A' && b <= 'F':
		return rune(b-'A') + 10, true
	}
	return 0, false
}
