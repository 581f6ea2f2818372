package scalar_test

import (
	"math/big"
	"math/rand"
	"testing"

	"introit/scalar"
)

// A second statement of P8.1: the same by numbers of any size.

func modulus() *big.Int {
	c, _ := new(big.Int).SetString("27742317777372353535851937790883648493", 10)
	return c.Add(c, new(big.Int).Lsh(big.NewInt(1), 252))
}

// number is what b represents, least significant byte first.
func number(b []byte) *big.Int {
	back := make([]byte, len(b))
	for i, x := range b {
		back[len(b)-1-i] = x
	}
	return new(big.Int).SetBytes(back)
}

// bytesOf is the converse of number, with so many bytes.
func bytesOf(x *big.Int, count int) []byte {
	b := make([]byte, count)
	for i, y := range x.FillBytes(make([]byte, count)) {
		b[count-1-i] = y
	}
	return b
}

func num(x *big.Int) scalar.Num { return scalar.Num(bytesOf(x, 32)) }

func times(x *big.Int, k int64) *big.Int { return new(big.Int).Mul(x, big.NewInt(k)) }

func power2(n uint) *big.Int { return new(big.Int).Lsh(big.NewInt(1), n) }

// A pool collects numbers of 256 bits; what needs more, or is negative, stays out.
type pool []scalar.Num

func (l *pool) add(x *big.Int) {
	if x.Sign() >= 0 && x.BitLen() <= 256 {
		*l = append(*l, num(x))
	}
}

func (l *pool) around(x *big.Int, distance int64) {
	for d := -distance; d <= distance; d++ {
		l.add(new(big.Int).Add(x, big.NewInt(d)))
	}
}

// named are those at the edges: around 0, each multiple of L, its half and its quarter, 2^252, 2^255 and 2^256.
func named() []scalar.Num {
	var l pool
	for k := int64(0); k <= 15; k++ {
		l.around(times(modulus(), k), 2)
	}
	for _, x := range []*big.Int{
		power2(252), power2(255), power2(256), new(big.Int).Rsh(modulus(), 1), new(big.Int).Rsh(modulus(), 2),
	} {
		l.around(x, 2)
	}
	return l
}

// powers are those around each power of 2.
func powers() []scalar.Num {
	var l pool
	for i := uint(0); i <= 256; i++ {
		l.around(power2(i), 1)
	}
	return l
}

// patterns are those whose four words are among a few: so that the carries from word to word are of every kind.
func patterns() []scalar.Num {
	var l []scalar.Num
	of := []uint64{0, 1, 1 << 63, 1<<64 - 1}
	for n := range 4 * 4 * 4 * 4 {
		var a scalar.Num
		for i := range 4 {
			for j := range 8 {
				a[8*i+j] = byte(of[n%4] >> (8 * j))
			}
			n /= 4
		}
		l = append(l, a)
	}
	return l
}

func random(r *rand.Rand, count int) []scalar.Num {
	l := make([]scalar.Num, count)
	for i := range l {
		r.Read(l[i][:])
	}
	return l
}

// wantRest checks a result: it is the remainder of what was to be reckoned, and so less than L.
func wantRest(t *testing.T, what string, got scalar.Num, x *big.Int, of ...scalar.Num) {
	t.Helper()
	want := num(new(big.Int).Mod(x, modulus()))
	if got != want || number(got[:]).Cmp(modulus()) >= 0 {
		t.Fatalf("%s of %x: %x, want %x", what, of, got, want)
	}
}

func checkOne(t *testing.T, a scalar.Num) {
	t.Helper()
	x := number(a[:])
	if got := scalar.Good(a); got != (x.Cmp(modulus()) < 0) {
		t.Fatalf("Good of %x: %v", a, got)
	}
	for i := range 256 {
		if got := scalar.Bit(a, i); got != (x.Bit(i) == 1) {
			t.Fatalf("Bit %d of %x: %v", i, a, got)
		}
	}
	wantRest(t, "Of", scalar.Of(a[:]), x, a)
	wantRest(t, "Neg", scalar.Neg(a), new(big.Int).Neg(x), a)
}

func checkPair(t *testing.T, a, b scalar.Num) {
	t.Helper()
	wantRest(t, "Add", scalar.Add(a, b), new(big.Int).Add(number(a[:]), number(b[:])), a, b)
}

func checkThree(t *testing.T, a, b, c scalar.Num) {
	t.Helper()
	x := new(big.Int).Mul(number(a[:]), number(b[:]))
	wantRest(t, "MulAdd", scalar.MulAdd(a, b, c), x.Add(x, number(c[:])), a, b, c)
}

func checkOf(t *testing.T, b []byte) {
	t.Helper()
	x := number(b[:min(len(b), 64)])
	if got, want := scalar.Of(b), num(new(big.Int).Mod(x, modulus())); got != want {
		t.Fatalf("Of %x: %x, want %x", b, got, want)
	}
}

func TestNamedAlone(t *testing.T) {
	for _, a := range named() {
		checkOne(t, a)
	}
}

func TestOthersAlone(t *testing.T) {
	for _, l := range [][]scalar.Num{powers(), patterns(), random(rand.New(rand.NewSource(1)), 1000)} {
		for _, a := range l {
			checkOne(t, a)
		}
	}
}

func checkPairs(t *testing.T, as, bs []scalar.Num) {
	t.Helper()
	for _, a := range as {
		for _, b := range bs {
			checkPair(t, a, b)
		}
	}
}

func TestPairs(t *testing.T) {
	checkPairs(t, named(), named())
	others := append(powers(), random(rand.New(rand.NewSource(2)), 100)...)
	checkPairs(t, few(), others)
	checkPairs(t, others, few())
}

func TestPatternPairs(t *testing.T) {
	if testing.Short() {
		t.Skip("some seconds")
	}
	checkPairs(t, patterns(), patterns())
	thirds := []scalar.Num{small(0), l(1, -1), all()}
	for i, a := range patterns() {
		for j, b := range patterns() {
			checkThree(t, a, b, thirds[(i+j)%3])
		}
	}
}

// few are some of those at the edges: as many as each three of them can be tried.
func few() []scalar.Num {
	var l pool
	for _, k := range []int64{0, 1, 2, 15} {
		l.around(times(modulus(), k), 1)
	}
	l.add(big.NewInt(2))
	l.add(new(big.Int).Sub(modulus(), big.NewInt(2)))
	l.add(power2(252))
	l.add(power2(255))
	l.around(power2(256), 1)
	return append(l, random(rand.New(rand.NewSource(3)), 5)...)
}

func TestThrees(t *testing.T) {
	for _, a := range few() {
		for _, b := range few() {
			for _, c := range few() {
				checkThree(t, a, b, c)
			}
		}
	}
}

func TestThreesOfOthers(t *testing.T) {
	r := rand.New(rand.NewSource(4))
	for range 10000 {
		l := random(r, 3)
		checkThree(t, l[0], l[1], l[2])
	}
}

// Each number of bytes: of all bits, of one byte that counts least or most, and random ones.
func TestOfEachLength(t *testing.T) {
	r := rand.New(rand.NewSource(5))
	for n := range 130 {
		for range 50 {
			b := make([]byte, n)
			r.Read(b)
			checkOf(t, b)
		}
		b := make([]byte, n)
		checkOf(t, b)
		for i := range b {
			b[i] = 255
		}
		checkOf(t, b)
		for i := range b {
			one := make([]byte, n)
			one[i] = 255
			checkOf(t, one)
		}
	}
}

// Around L times each power of 2 and times many other numbers of up to 260 bits: each step of the division meets a number that L goes into, or just not.
func TestOfAroundMultiples(t *testing.T) {
	r := rand.New(rand.NewSource(6))
	greatest := new(big.Int).Div(power2(512), modulus())
	factors := []*big.Int{greatest, new(big.Int).Sub(greatest, big.NewInt(1))}
	for i := range uint(260) {
		factors = append(factors, power2(i), new(big.Int).Sub(power2(i), big.NewInt(1)), new(big.Int).Rand(r, power2(i+1)))
	}
	for _, k := range factors {
		for d := int64(-2); d <= 2; d++ {
			x := new(big.Int).Mul(k, modulus())
			x.Add(x, big.NewInt(d))
			if x.Sign() >= 0 && x.BitLen() <= 512 {
				checkOf(t, bytesOf(x, 64))
			}
		}
	}
}

func TestOfAroundPowers(t *testing.T) {
	for i := uint(0); i <= 512; i++ {
		for d := int64(-1); d <= 1; d++ {
			if x := new(big.Int).Add(power2(i), big.NewInt(d)); x.BitLen() <= 512 {
				checkOf(t, bytesOf(x, 64))
			}
		}
	}
}

// What is reckoned from results goes on being right: a long row of sums, products and negations.
func TestLongRow(t *testing.T) {
	r := rand.New(rand.NewSource(7))
	a := random(r, 1)[0]
	x := number(a[:])
	for _, b := range random(r, 5000) {
		y := number(b[:])
		a = scalar.Neg(scalar.MulAdd(scalar.Add(a, b), a, b))
		x = x.Mod(x.Neg(x.Add(x.Mul(new(big.Int).Add(x, y), x), y)), modulus())
		wantRest(t, "row", a, x, b)
	}
}

func FuzzThree(f *testing.F) {
	f.Add([]byte{1}, []byte{2}, []byte{3})
	f.Fuzz(func(t *testing.T, x, y, z []byte) {
		var a, b, c scalar.Num
		copy(a[:], x)
		copy(b[:], y)
		copy(c[:], z)
		checkOne(t, a)
		checkPair(t, a, b)
		checkThree(t, a, b, c)
		checkOf(t, x)
	})
}

func BenchmarkOf(b *testing.B) {
	x := multiple(1000003, -1)
	for b.Loop() {
		scalar.Of(x)
	}
}

func BenchmarkMulAdd(b *testing.B) {
	x, y := l(15, -5), all()
	for b.Loop() {
		x = scalar.MulAdd(x, y, x)
	}
}
