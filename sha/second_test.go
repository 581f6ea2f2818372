package sha_test

import (
	"bytes"
	"crypto/sha256"
	"crypto/sha512"
	"encoding/hex"
	"math/big"
	"math/rand"
	"testing"

	"introit/sha"
)

// Two more statements of P6.1, by other means: the library's digests, and the standard's own text, with numbers of any size modulo 2^32 or 2^64 and with constants that are reckoned from the primes.

// A standard is one of the two functions, as the standard's text has it.
type standard struct {
	bits, rounds                        int
	scheduleFar, scheduleNear, one, two [3]int
}

func standard256() standard {
	return standard{32, 64, [3]int{7, 18, 3}, [3]int{17, 19, 10}, [3]int{6, 11, 25}, [3]int{2, 13, 22}}
}

func standard512() standard {
	return standard{64, 80, [3]int{1, 8, 7}, [3]int{19, 61, 6}, [3]int{14, 18, 41}, [3]int{28, 34, 39}}
}

func (s standard) cut(x *big.Int) *big.Int {
	return x.And(x, new(big.Int).Sub(new(big.Int).Lsh(big.NewInt(1), uint(s.bits)), big.NewInt(1)))
}

func (s standard) sum(xs ...*big.Int) *big.Int {
	out := new(big.Int)
	for _, x := range xs {
		out.Add(out, x)
	}
	return s.cut(out)
}

func xor(x, y, z *big.Int) *big.Int {
	out := new(big.Int).Xor(x, y)
	return out.Xor(out, z)
}

func and(x, y *big.Int) *big.Int { return new(big.Int).And(x, y) }

func (s standard) not(x *big.Int) *big.Int { return s.cut(new(big.Int).Not(x)) }

func shift(x *big.Int, n int) *big.Int { return new(big.Int).Rsh(x, uint(n)) }

func (s standard) turn(x *big.Int, n int) *big.Int {
	left := s.cut(new(big.Int).Lsh(x, uint(s.bits-n)))
	return left.Or(left, shift(x, n))
}

func (s standard) capital(x *big.Int, n [3]int) *big.Int {
	return xor(s.turn(x, n[0]), s.turn(x, n[1]), s.turn(x, n[2]))
}

func (s standard) small(x *big.Int, n [3]int) *big.Int {
	return xor(s.turn(x, n[0]), s.turn(x, n[1]), shift(x, n[2]))
}

// roots are the first bits after the point of the roots (square: 2, cube: 3) of the first primes.
func (s standard) roots(degree, count int) []*big.Int {
	var out []*big.Int
	for p := int64(2); len(out) < count; p++ {
		if n := big.NewInt(p); n.ProbablyPrime(0) {
			out = append(out, s.cut(root(n.Lsh(n, uint(degree*s.bits)), degree)))
		}
	}
	return out
}

// root is the greatest number whose power is at most n, found bit by bit.
func root(n *big.Int, degree int) *big.Int {
	out := new(big.Int)
	for bit := n.BitLen(); bit >= 0; bit-- {
		out.SetBit(out, bit, 1)
		if new(big.Int).Exp(out, big.NewInt(int64(degree)), nil).Cmp(n) > 0 {
			out.SetBit(out, bit, 0)
		}
	}
	return out
}

// padded is the message as a number of bits, the bit 1, k bits 0, and the number in twice a word's bits; k is the smallest that fills a block of sixteen words.
func (s standard) padded(m []byte) []byte {
	block, length := 16*s.bits, 2*s.bits
	k := 0
	for (len(m)*8+1+k+length)%block != 0 {
		k++
	}
	n := new(big.Int).SetBytes(m)
	n.Lsh(n, 1).SetBit(n, 0, 1)
	n.Lsh(n, uint(k+length))
	n.Add(n, big.NewInt(int64(len(m)*8)))
	return n.FillBytes(make([]byte, (len(m)*8+1+k+length)/8))
}

func (s standard) block(h, k []*big.Int, block []byte) []*big.Int {
	var w []*big.Int
	for i := range 16 {
		w = append(w, new(big.Int).SetBytes(block[i*s.bits/8:(i+1)*s.bits/8]))
	}
	for i := 16; i < s.rounds; i++ {
		w = append(w, s.sum(s.small(w[i-2], s.scheduleNear), w[i-7], s.small(w[i-15], s.scheduleFar), w[i-16]))
	}
	v := append([]*big.Int{}, h...)
	for i := range s.rounds {
		choice := new(big.Int).Xor(and(v[4], v[5]), and(s.not(v[4]), v[6]))
		majority := xor(and(v[0], v[1]), and(v[0], v[2]), and(v[1], v[2]))
		t1 := s.sum(v[7], s.capital(v[4], s.one), choice, k[i], w[i])
		t2 := s.sum(s.capital(v[0], s.two), majority)
		v = []*big.Int{s.sum(t1, t2), v[0], v[1], v[2], s.sum(v[3], t1), v[4], v[5], v[6]}
	}
	for i := range v {
		v[i] = s.sum(v[i], h[i])
	}
	return v
}

func (s standard) digest(m []byte) []byte {
	h, k := s.roots(2, 8), s.roots(3, s.rounds)
	for b := s.padded(m); len(b) > 0; b = b[2*s.bits:] {
		h = s.block(h, k, b[:2*s.bits])
	}
	var out []byte
	for _, x := range h {
		out = append(out, x.FillBytes(make([]byte, s.bits/8))...)
	}
	return out
}

// wantLibrary checks both digests of parts, whose concatenation is m, by the library.
func wantLibrary(t *testing.T, m []byte, parts ...[]byte) {
	t.Helper()
	if got, want := sha.Sum256(parts...), sha256.Sum256(m); got != want {
		t.Fatalf("Sum256 of %d bytes in %d parts: %x, want %x", len(m), len(parts), got, want)
	}
	if got, want := sha.Sum512(parts...), sha512.Sum512(m); got != want {
		t.Fatalf("Sum512 of %d bytes in %d parts: %x, want %x", len(m), len(parts), got, want)
	}
}

func randomBytes(r *rand.Rand, n int) []byte {
	b := make([]byte, n)
	r.Read(b)
	return b
}

// Each length around the end of a block, by the standard's own text.
func TestStandardsText(t *testing.T) {
	r := rand.New(rand.NewSource(1))
	for _, n := range []int{0, 1, 3, 54, 55, 56, 57, 62, 63, 64, 65, 110, 111, 112, 113, 118, 119, 120, 121, 126, 127, 128, 129, 183, 184, 239, 240, 256} {
		m := randomBytes(r, n)
		one, two := sha.Sum256(m), sha.Sum512(m)
		if want := standard256().digest(m); !bytes.Equal(one[:], want) {
			t.Errorf("Sum256 of %d bytes: %x, want %x", n, one, want)
		}
		if want := standard512().digest(m); !bytes.Equal(two[:], want) {
			t.Errorf("Sum512 of %d bytes: %x, want %x", n, two, want)
		}
	}
}

// Each length up to several blocks, of bytes of one value and of several.
func TestEachLength(t *testing.T) {
	r := rand.New(rand.NewSource(2))
	for n := range 700 {
		for _, c := range []byte{0, 1, 0x7f, 0x80, 0xff} {
			m := bytes.Repeat([]byte{c}, n)
			wantLibrary(t, m, m)
		}
		for range 3 {
			m := randomBytes(r, n)
			wantLibrary(t, m, m)
		}
	}
}

func TestBytesOfEveryValue(t *testing.T) {
	var all []byte
	for x := range 256 {
		wantLibrary(t, []byte{byte(x)}, []byte{byte(x)})
		for _, n := range []int{55, 56, 64, 111, 112, 128} {
			m := bytes.Repeat([]byte{byte(x)}, n)
			wantLibrary(t, m, m)
		}
		all = append(all, byte(x))
		wantLibrary(t, all, all)
	}
}

// The same bytes parted in every way, with nothing between two parts or an empty argument.
func TestPartedInEveryWay(t *testing.T) {
	m := []byte("abcdefghij")
	for cuts := range 1 << (len(m) - 1) {
		for _, between := range [][][]byte{nil, {nil}, {{}, nil}} {
			parts := [][]byte{}
			from := 0
			for i := 1; i <= len(m); i++ {
				if i == len(m) || cuts>>(i-1)&1 == 1 {
					parts = append(append(parts, m[from:i]), between...)
					from = i
				}
			}
			wantLibrary(t, m, parts...)
		}
	}
}

// Lengths around the end of a block, parted in two and in three at every place, and byte by byte.
func TestPartedAroundBlocks(t *testing.T) {
	r := rand.New(rand.NewSource(3))
	for _, n := range []int{55, 56, 63, 64, 65, 111, 112, 119, 120, 127, 128, 129, 192, 257} {
		m := randomBytes(r, n)
		for i := range n + 1 {
			wantLibrary(t, m, m[:i], m[i:])
			j := i + (n-i)/2
			wantLibrary(t, m, m[:i], nil, m[i:j], m[j:])
		}
		var each [][]byte
		for i := range m {
			each = append(each, m[i:i+1])
		}
		wantLibrary(t, m, each...)
	}
}

func TestRandomParts(t *testing.T) {
	r := rand.New(rand.NewSource(4))
	for range 3000 {
		var m []byte
		var parts [][]byte
		for range r.Intn(8) {
			p := randomBytes(r, r.Intn(100))
			parts = append(parts, p)
			m = append(m, p...)
		}
		wantLibrary(t, m, parts...)
	}
}

// One bit of the message changed changes the digest.
func TestOneBitChanged(t *testing.T) {
	m := bytes.Repeat([]byte("0123456789"), 15)
	one, two := sha.Sum256(m), sha.Sum512(m)
	for i := range m {
		for bit := range 8 {
			m[i] ^= 1 << bit
			if sha.Sum256(m) == one || sha.Sum512(m) == two {
				t.Fatalf("bit %d of byte %d does not count", bit, i)
			}
			wantLibrary(t, m, m)
			m[i] ^= 1 << bit
		}
	}
}

// Long messages: some whose number of bits needs more than two and three bytes, in one argument and in many.
func TestLongMessages(t *testing.T) {
	r := rand.New(rand.NewSource(5))
	for _, n := range []int{8191, 8192, 8193, 65535, 65536, 2097151, 2097152, 2097153, 20000003} {
		m := randomBytes(r, n)
		wantLibrary(t, m, m)
		var parts [][]byte
		for from := 0; from < n; from += 1000 {
			parts = append(parts, m[from:min(from+1000, n)])
		}
		wantLibrary(t, m, parts...)
	}
}

// A message whose number of bits needs more than four bytes.
func TestMoreBitsThanFourBytesTell(t *testing.T) {
	if testing.Short() {
		t.Skip("some seconds")
	}
	part := randomBytes(rand.New(rand.NewSource(7)), 1<<20)
	parts := make([][]byte, 513)
	for i := range parts {
		parts[i] = part
	}
	t.Run("Sum256", func(t *testing.T) {
		t.Parallel()
		want := sha256.New()
		for _, p := range parts {
			want.Write(p)
		}
		if got := sha.Sum256(parts...); !bytes.Equal(got[:], want.Sum(nil)) {
			t.Errorf("%x, want %x", got, want.Sum(nil))
		}
	})
	t.Run("Sum512", func(t *testing.T) {
		t.Parallel()
		want := sha512.New()
		for _, p := range parts {
			want.Write(p)
		}
		if got := sha.Sum512(parts...); !bytes.Equal(got[:], want.Sum(nil)) {
			t.Errorf("%x, want %x", got, want.Sum(nil))
		}
	})
}

func TestManyArguments(t *testing.T) {
	const many = 1000000
	parts := make([][]byte, many)
	wantLibrary(t, nil, parts...)
	m := make([]byte, many)
	for i := range m {
		m[i] = byte(i * i >> 3)
		parts[i] = m[i : i+1]
	}
	wantLibrary(t, m, parts...)
}

func TestHexByLibrary(t *testing.T) {
	r := rand.New(rand.NewSource(6))
	for range 5000 {
		b := randomBytes(r, r.Intn(100))
		if got, want := sha.Hex(b), hex.EncodeToString(b); got != want {
			t.Fatalf("Hex(%v): %q, want %q", b, got, want)
		}
	}
	for x := range 256 {
		for y := range 256 {
			b := []byte{byte(x), byte(y)}
			if got, want := sha.Hex(b), hex.EncodeToString(b); got != want {
				t.Fatalf("Hex(%v): %q, want %q", b, got, want)
			}
		}
	}
	b := randomBytes(r, 3<<20)
	if sha.Hex(b) != hex.EncodeToString(b) {
		t.Errorf("Hex of %d bytes", len(b))
	}
}
