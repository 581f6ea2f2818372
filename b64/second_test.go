package b64_test

import (
	"bytes"
	"encoding/base64"
	"math/big"
	"math/rand"
	"strings"
	"testing"

	"introit/api"
)

// Two more statements of P5.1, by other means: the library's encoding, and the bytes as one great number.

func (p pair) library() *base64.Encoding {
	return base64.NewEncoding(p.alphabet).WithPadding(base64.NoPadding).Strict()
}

// byLibrary is what the library takes s for. (It passes over line ends, which no encoding has.)
func (p pair) byLibrary(s string) ([]byte, bool) {
	b, err := p.library().DecodeString(s)
	return b, err == nil && !strings.ContainsAny(s, "\r\n")
}

// byNumber is the text of b: the number that its bits and the bits 0 after them are, to the base 64.
func (p pair) byNumber(b []byte) string {
	length := (len(b)*8 + 5) / 6
	n := new(big.Int).SetBytes(b)
	n.Lsh(n, uint(length*6-len(b)*8))
	out := make([]byte, length)
	six := new(big.Int)
	for i := range out {
		n.DivMod(n, big.NewInt(64), six)
		out[length-1-i] = p.alphabet[six.Int64()]
	}
	return string(out)
}

// wantPut checks one encoding by both statements, and the way back.
func (p pair) wantPut(t *testing.T, b []byte) {
	t.Helper()
	s := p.byNumber(b)
	if other := p.library().EncodeToString(b); other != s {
		t.Fatalf("%s: the two statements differ for %v: %q and %q", p.name, b, s, other)
	}
	p.wantBoth(t, b, s)
}

// getHolds checks what get returns for any text, and that what is got is put as it was.
func (p pair) getHolds(t *testing.T, s string) bool {
	t.Helper()
	b, ok := p.byLibrary(s)
	if ok != (ok && p.byNumber(b) == s) {
		t.Fatalf("%s: the two statements differ for %q", p.name, s)
	}
	if !ok {
		p.wantNone(t, s)
		return false
	}
	p.wantBoth(t, b, s)
	return true
}

func TestAllShortBytes(t *testing.T) {
	for _, p := range pairs() {
		for x := range 256 {
			p.wantPut(t, []byte{byte(x)})
			for y := range 256 {
				p.wantPut(t, []byte{byte(x), byte(y)})
			}
		}
	}
}

func TestRandomBytes(t *testing.T) {
	r := rand.New(rand.NewSource(5))
	for range 20000 {
		b := make([]byte, r.Intn(40))
		r.Read(b)
		for _, p := range pairs() {
			p.wantPut(t, b)
		}
	}
}

// Each text of one or two bytes, of whichever bytes.
func TestAllShortTexts(t *testing.T) {
	for _, p := range pairs() {
		got := 0
		for x := range 256 {
			for y := range 256 {
				if p.getHolds(t, string([]byte{byte(x), byte(y)})) {
					got++
				}
			}
			p.getHolds(t, string([]byte{byte(x)}))
		}
		if got != 256 {
			t.Errorf("%s: %d texts of two characters, want one for each byte", p.name, got)
		}
	}
}

func TestPiecesInEveryOrder(t *testing.T) {
	pieces := []string{"A", "Q", "g", "w", "B", "E", "9", "/", "_", "+", "-", "=", "\n", "\xff"}
	for _, p := range pairs() {
		seen := map[bool]int{}
		var walk func(s string, left int)
		walk = func(s string, left int) {
			seen[p.getHolds(t, s)]++
			if left == 0 {
				return
			}
			for _, x := range pieces {
				walk(s+x, left-1)
			}
		}
		walk("", 4)
		walk("AAAA", 3)
		walk("zAw9A", 3)
		if seen[true] < 1000 || seen[false] < 1000 {
			t.Errorf("%s: too few of one sort: %v", p.name, seen)
		}
	}
}

// Random texts, mostly of an alphabet's characters, so that some of them are encodings.
func TestRandomTexts(t *testing.T) {
	r := rand.New(rand.NewSource(6))
	for _, p := range pairs() {
		seen := map[bool]int{}
		for range 50000 {
			s := make([]byte, r.Intn(20))
			odd := r.Intn(3) == 0
			for i := range s {
				s[i] = p.alphabet[r.Intn(64)]
				if odd && r.Intn(8) == 0 {
					s[i] = byte(r.Intn(256))
				}
			}
			seen[p.getHolds(t, string(s))]++
		}
		if seen[true] < 1000 || seen[false] < 1000 {
			t.Errorf("%s: too few of one sort: %v", p.name, seen)
		}
	}
}

// No two texts lead to the same bytes, and no two lists of bytes to the same text: one bit changed changes the other side, or is refused.
func TestOneBitChanged(t *testing.T) {
	r := rand.New(rand.NewSource(7))
	for _, p := range pairs() {
		for range 500 {
			b := make([]byte, 1+r.Intn(12))
			r.Read(b)
			s := []byte(p.put(b))
			for i := range s {
				for bit := range 8 {
					s[i] ^= 1 << bit
					if got, e := p.get(string(s)); e == api.OK && bytes.Equal(got, b) {
						t.Fatalf("%s: %q leads to %v too", p.name, s, b)
					}
					p.getHolds(t, string(s))
					s[i] ^= 1 << bit
				}
			}
		}
	}
}

// Long inputs: a call that copied all that it has at each step would not end in time.
func TestLongInputs(t *testing.T) {
	const many = 3 << 20
	r := rand.New(rand.NewSource(8))
	for _, p := range pairs() {
		for more := range 3 {
			b := make([]byte, many+more)
			r.Read(b)
			s := p.library().EncodeToString(b)
			if got := p.put(b); got != s {
				t.Errorf("%s: %d bytes are not put as they should be", p.name, len(b))
			}
			if got, e := p.get(s); e != api.OK || !bytes.Equal(got, b) {
				t.Errorf("%s: %d bytes are not got back: %v", p.name, len(b), e)
			}
			for _, bad := range []string{s + "=", s + "\n", "=" + s, s[:len(s)/2] + "\x80" + s[len(s)/2+1:], s[:many] + "A"} {
				if got, e := p.get(bad); e != api.ErrForm || len(got) != 0 {
					t.Errorf("%s: a bad text of %d characters: %v", p.name, len(bad), e)
				}
			}
		}
	}
}
