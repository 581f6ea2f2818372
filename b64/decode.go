package b64

import (
	"strings"

	"introit/api"
)

func decoded(s, alphabet string) ([]byte, api.Errno) {
	if len(s)%4 == 1 { // six bits are not enough for another byte
		return nil, api.ErrForm
	}
	var out []byte
	var bits uint32 // those that are in no byte yet are the lowest; the ones above them are spent
	left := 0
	for i := range len(s) {
		six := strings.IndexByte(alphabet, s[i])
		if six < 0 {
			return nil, api.ErrForm
		}
		bits = bits<<6 | uint32(six)
		left += 6
		if left >= 8 {
			left -= 8
			out = append(out, byte(bits>>left))
		}
	}
	if bits&(1<<left-1) != 0 {
		return nil, api.ErrForm
	}
	return out, api.OK
}
