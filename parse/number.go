package parse

import (
	"strings"

	"introit/api"
	"introit/value"
)

// number takes all bytes that could belong to some number, so that a fraction or an exponent is a wrong number, not a right one with something after it.
func (p *parser) number() (api.Value, api.Errno) {
	from := p.at
	for p.at < len(p.s) && isOfNumber(p.s[p.at]) {
		p.at++
	}
	n, ok := integer(p.s[from:p.at])
	if !ok {
		return api.Value{}, api.ErrNumber
	}
	return value.Int(n), api.OK
}

// integer returns what s says in decimal digits; false unless that is the one way to write a number from -MaxInt to MaxInt.
func integer(s string) (int64, bool) {
	if s == "0" {
		return 0, true
	}
	digits, negative := strings.CutPrefix(s, "-")
	if digits == "" || digits[0] == '0' {
		return 0, false
	}
	var n int64
	for i := range len(digits) {
		if !isDigit(digits[i]) {
			return 0, false
		}
		n = n*10 + int64(digits[i]-'0')
		// At each digit, so that a long number is refused before n wraps round.
		if n > api.MaxInt {
			return 0, false
		}
	}
	if negative {
		n = -n
	}
	return n, true
}

func isDigit(b byte) bool { return b >= '0' && b <= '9' }

func isOfNumber(b byte) bool { return isDigit(b) || strings.IndexByte("+-.eE", b) >= 0 }
