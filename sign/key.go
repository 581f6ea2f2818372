package sign

import (
	"slices"

	"introit/curve"
	"introit/scalar"
	"introit/sha"
)

// A key is what a seed makes: the number whose multiple of Base is public, and the bytes that make r differ from key to key.
type key struct {
	secret scalar.Num
	prefix [32]byte
	public curve.Point
}

// keyOf returns the key of a seed; false if the seed does not have its number of bytes.
func keyOf(seed []byte) (key, bool) {
	if len(seed) != seedSize {
		return key{}, false
	}
	h := sha.Sum512(seed)
	s := clamp(scalar.Num(h[:32]))
	return key{s, [32]byte(h[32:]), timesBase(s)}, true
}

// clamp sets the three least significant bits and the most significant bit to 0, and the second most significant bit to 1.
func clamp(s scalar.Num) scalar.Num {
	s[0] &= 0xf8
	s[31] = s[31]&0x7f | 0x40
	return s
}

// signer returns what signs messages with the key of a seed: a method value, so that whoever signs has the key's use and not its secret.
func signer(seed []byte) (func(msg []byte) []byte, bool) {
	k, ok := keyOf(seed)
	if !ok {
		return nil, false
	}
	return k.sign, true
}

func (k key) sign(msg []byte) []byte {
	r := digest(k.prefix[:], msg)
	first := timesBase(r)
	second := scalar.MulAdd(digest(first[:], k.public[:], msg), k.secret, r)
	return slices.Concat(first[:], second[:])
}

// digest returns the remainder modulo L of the number that the SHA-512 digest of its arguments represents.
func digest(b ...[]byte) scalar.Num {
	h := sha.Sum512(b...)
	return scalar.Of(h[:])
}

// timesBase returns k times Base, which is Good.
func timesBase(k scalar.Num) curve.Point {
	p, _ := curve.Times(k, curve.Base())
	return p
}
