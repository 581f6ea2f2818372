package b64_test

import (
	"bytes"
	"fmt"
	"strings"
	"testing"

	"introit/api"
	"introit/b64"
)

// The two alphabets as the RFC's tables have them, written out once more.
const (
	standard = "ABCDEFGHIJKLMNOPQRSTUVWXYZabcdefghijklmnopqrstuvwxyz0123456789+/"
	url      = "ABCDEFGHIJKLMNOPQRSTUVWXYZabcdefghijklmnopqrstuvwxyz0123456789-_"
)

// A pair is Put and Get, or PutURL and GetURL.
type pair struct {
	name     string
	alphabet string
	put      func([]byte) string
	get      func(string) ([]byte, api.Errno)
}

func pairs() []pair {
	return []pair{
		{"standard", standard, b64.Put, b64.Get},
		{"URL", url, b64.PutURL, b64.GetURL},
	}
}

// in writes a text of the standard alphabet in the alphabet of p.
func (p pair) in(s string) string {
	out := []byte(s)
	for i, c := range out {
		if k := strings.IndexByte(standard, c); k >= 0 {
			out[i] = p.alphabet[k]
		}
	}
	return string(out)
}

// wantBoth checks that s is put for b, and b is got for s.
func (p pair) wantBoth(t *testing.T, b []byte, s string) {
	t.Helper()
	if got := p.put(b); got != s {
		t.Fatalf("%s: put %v: %q, want %q", p.name, b, got, s)
	}
	if got, e := p.get(s); !bytes.Equal(got, b) || e != api.OK {
		t.Fatalf("%s: get %q: %v, %v, want %v", p.name, s, got, e, b)
	}
}

// wantNone checks that s is refused, and that nothing is returned beside the error.
func (p pair) wantNone(t *testing.T, s string) {
	t.Helper()
	if got, e := p.get(s); len(got) != 0 || e != api.ErrForm {
		t.Fatalf("%s: get %q: %v, %v, want ErrForm alone", p.name, s, got, e)
	}
}

func TestKnownTexts(t *testing.T) {
	for _, c := range []struct{ b, s string }{
		{"", ""},
		{"\xff", "/w"}, // the chapter's example
		{"f", "Zg"},    // the RFC's own, without their padding
		{"fo", "Zm8"},
		{"foo", "Zm9v"},
		{"foob", "Zm9vYg"},
		{"fooba", "Zm9vYmE"},
		{"foobar", "Zm9vYmFy"},
		{"\x14\xfb\x9c\x03\xd9\x7e", "FPucA9l+"},
		{"\x14\xfb\x9c\x03\xd9", "FPucA9k"},
		{"\x14\xfb\x9c\x03", "FPucAw"},
		{"\x00", "AA"},
		{"\x00\x00", "AAA"},
		{"\x00\x00\x00", "AAAA"},
		{"\xff\xff", "//8"},
		{"\xff\xff\xff", "////"},
		{"\xff\xff\xff\xff", "/////w"},
		{"\xfb\xef\xbe", "++++"},
		{"\x00\x10\x83\x10\x51\x87\x20\x92\x8b", "ABCDEFGHIJKL"},
		{"\x01", "AQ"},
		{"\x80", "gA"},
		{"\x00\x01", "AAE"},
		{"\x00\x00\x01", "AAAB"},
	} {
		for _, p := range pairs() {
			p.wantBoth(t, []byte(c.b), p.in(c.s))
		}
	}
}

func TestNoBytes(t *testing.T) {
	for _, p := range pairs() {
		if s := p.put(nil); s != "" {
			t.Errorf("%s: put nil: %q", p.name, s)
		}
		p.wantBoth(t, []byte{}, "")
	}
}

// Each of the 64 characters at each of the four places, where it stands for its number's six bits.
func TestEachCharacterAtEachPlace(t *testing.T) {
	for _, p := range pairs() {
		for k := range 64 {
			for place := range 4 {
				s := []byte("AAAA")
				s[place] = p.alphabet[k]
				n := k << (6 * (3 - place))
				p.wantBoth(t, []byte{byte(n >> 16), byte(n >> 8), byte(n)}, string(s))
			}
		}
	}
}

func TestAllCharactersInOneText(t *testing.T) {
	b := []byte{}
	for k := 0; k < 64; k += 4 {
		n := k<<18 | (k+1)<<12 | (k+2)<<6 | (k + 3)
		b = append(b, byte(n>>16), byte(n>>8), byte(n))
	}
	for _, p := range pairs() {
		p.wantBoth(t, b, p.alphabet)
	}
}

// Every byte that is not in the alphabet, at every place of texts of every length that an encoding has: those of the other alphabet, `=`, white space, bytes of UTF-8 and bytes of nothing.
func TestOtherCharacters(t *testing.T) {
	for _, p := range pairs() {
		count := 0
		for c := range 256 {
			if strings.IndexByte(p.alphabet, byte(c)) >= 0 {
				continue
			}
			count++
			for _, length := range []int{1, 2, 3, 4, 6, 7, 8} {
				for place := range length {
					s := bytes.Repeat([]byte("A"), length)
					s[place] = byte(c)
					p.wantNone(t, string(s))
				}
			}
		}
		if count != 192 {
			t.Errorf("%s: %d other characters", p.name, count)
		}
	}
}

func TestOtherAlphabet(t *testing.T) {
	for _, s := range []string{"++++", "////", "+A", "/w", "A+A", "AA/A", "AAAAAAA+"} {
		p := pairs()
		p[1].wantNone(t, s)
		p[0].wantNone(t, p[1].in(s))
		for k := range p { // and each in its own alphabet is one
			if _, e := p[k].get(p[k].in(s)); e != api.OK {
				t.Errorf("%s: get %q: %v", p[k].name, p[k].in(s), e)
			}
		}
	}
	for _, p := range pairs() {
		p.wantNone(t, "+-+-")
		p.wantNone(t, "_/")
	}
}

func TestPaddingAndSpace(t *testing.T) {
	for _, s := range []string{
		"=", "==", "===", "====", "AA=", "AA==", "AA===", "AAA=", "AAA==", "AAAA=", "AAAA==", "AAAA====", "=AAA", "A=AA", "AA=A",
		" ", "\n", "\r", "\t", "    ", "\r\n", "AA ", " AA", "A A", "AA\n", "AA\r\n", "AAA\n", "AAAA\n", "AAAA\nAAAA", "AAAA\r\nAA", "\nAAAA", "AAAA    ", "AA\x00", "\x00\x00\x00\x00",
		"\u00e4\u00e4", "\uff21\uff21", "A\u0391", "AA\u200b", "\xff\xff", "\xc1\x81",
	} {
		for _, p := range pairs() {
			p.wantNone(t, s)
		}
	}
}

// No encoding has a length that is 1 modulo 4, whichever characters stand there.
func TestLengthsOfNoEncoding(t *testing.T) {
	for _, p := range pairs() {
		for n := 1; n < 200; n += 4 {
			for k := range 64 {
				p.wantNone(t, strings.Repeat("A", n-1)+p.alphabet[k:k+1])
			}
			p.wantNone(t, strings.Repeat(p.alphabet[63:], n))
		}
	}
}

// Of the 64 characters that may end a text of 2 modulo 4, 4 have bits 0 after the last byte; of 3 modulo 4, 16 have them.
func TestLastBits(t *testing.T) {
	for _, p := range pairs() {
		for _, before := range []string{"", "AAAA", p.alphabet[60:], p.alphabet[:56]} {
			for k := range 64 {
				last := p.alphabet[k : k+1]
				checkLast(t, p, before+"A"+last, k%16 == 0)
				checkLast(t, p, before+p.alphabet[63:]+last, k%16 == 0)
				checkLast(t, p, before+"AA"+last, k%4 == 0)
				checkLast(t, p, before+p.alphabet[62:]+last, k%4 == 0)
				checkLast(t, p, before+"AAA"+last, true)
				checkLast(t, p, before+p.alphabet[61:]+last, true)
			}
		}
	}
}

// checkLast checks that s is got if zero says so, and then put as it was; and else refused.
func checkLast(t *testing.T, p pair, s string, zero bool) {
	t.Helper()
	if !zero {
		p.wantNone(t, s)
		return
	}
	b, e := p.get(s)
	if e != api.OK || len(b) != len(s)*3/4 || p.put(b) != s {
		t.Fatalf("%s: get %q: %v, %v, put as %q", p.name, s, b, e, p.put(b))
	}
}

// The length of an encoding: four characters for three bytes, two for one left over, three for two.
func TestLengths(t *testing.T) {
	for _, p := range pairs() {
		for n := range 200 {
			want := n/3*4 + []int{0, 2, 3}[n%3]
			for _, c := range []byte{0, 1, 127, 128, 255} {
				if s := p.put(bytes.Repeat([]byte{c}, n)); len(s) != want {
					t.Fatalf("%s: %d bytes %d: %d characters, want %d", p.name, n, c, len(s), want)
				}
			}
		}
	}
}

// R4: what is passed is neither changed, spare capacity included, nor kept; what is returned is new memory.
func TestMemory(t *testing.T) {
	for _, p := range pairs() {
		for n := range 10 {
			room := bytes.Repeat([]byte{0xa5}, 32)
			b := room[:n]
			s := p.put(b)
			if !bytes.Equal(room, bytes.Repeat([]byte{0xa5}, 32)) {
				t.Fatalf("%s: put changed its argument: %v", p.name, room)
			}
			kept := strings.Clone(s)
			clear(room)
			if s != kept {
				t.Fatalf("%s: the text changed with the bytes", p.name)
			}
			one, _ := p.get(s)
			two, _ := p.get(s)
			fill(one, 1)
			if want := bytes.Repeat([]byte{0xa5}, n); !bytes.Equal(two, want) {
				t.Fatalf("%s: two results share memory: %v", p.name, two)
			}
			p.wantBoth(t, bytes.Repeat([]byte{0xa5}, n), kept)
		}
	}
}

// fill sets all of b, with its spare capacity, to c.
func fill(b []byte, c byte) {
	b = b[:cap(b)]
	for i := range b {
		b[i] = c
	}
}

// R5: one call leaves nothing behind for the next, a refused one neither.
func TestCallsInTurn(t *testing.T) {
	for _, p := range pairs() {
		for _, bad := range []string{"A", "AB", "AAB", "=", "AAAA*", strings.Repeat("A", 41)} {
			p.wantBoth(t, []byte{255, 1}, p.in("/wE"))
			p.wantNone(t, bad)
			p.wantBoth(t, []byte{255}, p.in("/w"))
			p.wantBoth(t, nil, "")
		}
	}
}

func Example() {
	fmt.Println(b64.Put([]byte{255}), b64.PutURL([]byte{255}))
	fmt.Println(b64.Get("/w"))
	fmt.Println(b64.GetURL("/w"))
	// Output:
	// /w _w
	// [255] error 0
	// [] error 2
}
