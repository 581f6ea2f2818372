package field_test

import (
	"math/big"
	"math/rand"
	"testing"

	"introit/field"
)

// A second statement of P7.1: the same by numbers of any size.

func modulus() *big.Int {
	return new(big.Int).Sub(new(big.Int).Lsh(big.NewInt(1), 255), big.NewInt(19))
}

func number(a field.Num) *big.Int {
	b := make([]byte, 32)
	for i, x := range a {
		b[31-i] = x
	}
	return new(big.Int).SetBytes(b)
}

func num(x *big.Int) field.Num {
	var a field.Num
	for i, b := range x.FillBytes(make([]byte, 32)) {
		a[31-i] = b
	}
	return a
}

// A pool collects numbers of 256 bits; what needs more, or is negative, stays out.
type pool []field.Num

func (l *pool) add(x *big.Int) {
	if x.Sign() >= 0 && x.BitLen() <= 256 {
		*l = append(*l, num(x))
	}
}

func (l *pool) around(x *big.Int, distance int64) {
	for d := -distance; d <= distance; d++ {
		l.add(new(big.Int).Add(x, big.NewInt(d)))
	}
}

// named are those at the edges: around 0, P, 2P, 2^255, 2^256 and the quarters and halves of P.
func named() []field.Num {
	var l pool
	m := modulus()
	for _, x := range []*big.Int{
		new(big.Int), m, new(big.Int).Lsh(m, 1), new(big.Int).Lsh(big.NewInt(1), 255), new(big.Int).Lsh(big.NewInt(1), 256),
	} {
		l.around(x, 21)
	}
	for shift := uint(1); shift < 4; shift++ {
		l.around(new(big.Int).Rsh(m, shift), 3)
	}
	return l
}

// powers are those around each power of 2.
func powers() []field.Num {
	var l pool
	for i := uint(0); i <= 256; i++ {
		l.around(new(big.Int).Lsh(big.NewInt(1), i), 1)
	}
	return l
}

// patterns are those whose four words are among a few: so that the carries from word to word are of every kind.
func patterns() []field.Num {
	var l []field.Num
	of := []uint64{0, 1, 1 << 63, 1<<63 - 1, 1<<64 - 1}
	for n := range 5 * 5 * 5 * 5 {
		var a field.Num
		for i := range 4 {
			for j := range 8 {
				a[8*i+j] = byte(of[n%5] >> (8 * j))
			}
			n /= 5
		}
		l = append(l, a)
	}
	return l
}

func random(r *rand.Rand, count int) []field.Num {
	l := make([]field.Num, count)
	for i := range l {
		r.Read(l[i][:])
	}
	return l
}

// wantLess checks a result: it is what it should be, and less than P.
func wantLess(t *testing.T, what string, got field.Num, want *big.Int, of ...field.Num) {
	t.Helper()
	if got != num(want) || number(got).Cmp(modulus()) >= 0 || !field.Good(got) {
		t.Fatalf("%s of %x: %x, want %x", what, of, got, num(want))
	}
}

func checkPair(t *testing.T, a, b field.Num) {
	t.Helper()
	x, y, m := number(a), number(b), modulus()
	wantLess(t, "Add", field.Add(a, b), new(big.Int).Mod(new(big.Int).Add(x, y), m), a, b)
	wantLess(t, "Sub", field.Sub(a, b), new(big.Int).Mod(new(big.Int).Sub(x, y), m), a, b)
	wantLess(t, "Mul", field.Mul(a, b), new(big.Int).Mod(new(big.Int).Mul(x, y), m), a, b)
}

func checkPairs(t *testing.T, as, bs []field.Num) {
	t.Helper()
	for _, a := range as {
		for _, b := range bs {
			checkPair(t, a, b)
		}
	}
}

func checkOne(t *testing.T, a field.Num) {
	t.Helper()
	m := modulus()
	rest := new(big.Int).Mod(number(a), m)
	if got := field.Good(a); got != (number(a).Cmp(m) < 0) {
		t.Fatalf("Good of %x: %v", a, got)
	}
	if got := field.Odd(a); got != (rest.Bit(0) == 1) {
		t.Fatalf("Odd of %x: %v", a, got)
	}
	wantLess(t, "Rest", field.Rest(a), rest, a)
	inverse := new(big.Int)
	if rest.Sign() != 0 {
		inverse.ModInverse(rest, m)
		wantLess(t, "Mul with Inv", field.Mul(a, field.Inv(a)), big.NewInt(1), a)
	}
	wantLess(t, "Inv", field.Inv(a), inverse, a)
	checkRoot(t, a, rest)
}

func checkRoot(t *testing.T, a field.Num, rest *big.Int) {
	t.Helper()
	m := modulus()
	got, ok := field.Root(a)
	if want := big.Jacobi(rest, m) >= 0; ok != want {
		t.Fatalf("Root of %x: %v", a, ok)
	}
	if !ok {
		wantLess(t, "Root", got, new(big.Int), a)
		return
	}
	root := new(big.Int).ModSqrt(rest, m)
	if root.Bit(0) == 1 {
		root.Sub(m, root)
	}
	wantLess(t, "Root", got, root, a)
	wantLess(t, "square of Root", field.Mul(got, got), rest, a)
}

func TestNamedAlone(t *testing.T) {
	for _, a := range named() {
		checkOne(t, a)
	}
}

func TestOthersAlone(t *testing.T) {
	for _, l := range [][]field.Num{powers(), patterns(), random(rand.New(rand.NewSource(1)), 1000)} {
		for _, a := range l {
			checkOne(t, a)
		}
	}
}

func TestNamedPairs(t *testing.T) {
	checkPairs(t, named(), named())
}

func TestNamedWithOthers(t *testing.T) {
	others := append(powers(), random(rand.New(rand.NewSource(2)), 200)...)
	checkPairs(t, named(), others)
	checkPairs(t, others, named())
}

func TestPatternPairs(t *testing.T) {
	if testing.Short() {
		t.Skip("some seconds")
	}
	checkPairs(t, patterns(), patterns())
}

func TestRandomPairs(t *testing.T) {
	r := rand.New(rand.NewSource(3))
	checkPairs(t, random(r, 300), random(r, 300))
}

// Products whose upper half, times 38, is around a multiple of 2^256: what comes back makes another carry, or just misses it.
func TestProductsNearWrap(t *testing.T) {
	var all field.Num
	for i := range all {
		all[i] = 255
	}
	var near pool
	for k := int64(0); k <= 40; k++ {
		x := new(big.Int).Lsh(big.NewInt(k), 256)
		near.around(x.Div(x, big.NewInt(38)), 3)
		y := new(big.Int).Lsh(big.NewInt(k), 256)
		near.around(y.Div(y, big.NewInt(37)), 3)
	}
	checkPairs(t, near, []field.Num{all, small(1), small(37), small(38)})
	checkPairs(t, near, near)
}

func TestOfByNumbers(t *testing.T) {
	r := rand.New(rand.NewSource(4))
	for i := range 64 {
		for _, n := range []uint64{1 << i, 1<<i - 1, 1<<i + 1, -(1 << i), r.Uint64(), r.Uint64() >> i} {
			wantLess(t, "Of", field.Of(n), new(big.Int).SetUint64(n))
		}
	}
}

// Squares of numbers small and great have a root, and it is the even one of the two; twice a square has none.
func TestRootOfManySquares(t *testing.T) {
	m := modulus()
	for _, a := range append(named(), random(rand.New(rand.NewSource(5)), 500)...) {
		rest := new(big.Int).Mod(number(a), m)
		square := new(big.Int).Mul(rest, rest)
		square.Mod(square, m)
		even := rest
		if even.Bit(0) == 1 {
			even = new(big.Int).Sub(m, rest)
		}
		got, ok := field.Root(num(square))
		if !ok {
			t.Fatalf("the square of %x has no root", a)
		}
		wantLess(t, "Root of the square", got, even, a)
		if rest.Sign() == 0 {
			continue
		}
		twice := new(big.Int).Lsh(square, 1)
		if got, ok := field.Root(num(twice.Mod(twice, m))); ok || got != (field.Num{}) {
			t.Fatalf("Root of twice the square of %x: %x %v", a, got, ok)
		}
	}
}

// What is reckoned from results goes on being right: a long row of sums, differences and products.
func TestLongRow(t *testing.T) {
	r := rand.New(rand.NewSource(6))
	m := modulus()
	a := random(r, 1)[0]
	x := number(a)
	for _, b := range random(r, 5000) {
		y := number(b)
		a = field.Sub(field.Mul(field.Add(a, b), a), b)
		x = new(big.Int).Mod(new(big.Int).Sub(new(big.Int).Mul(new(big.Int).Add(x, y), x), y), m)
		wantLess(t, "row", a, x, b)
	}
}

func FuzzPair(f *testing.F) {
	f.Add([]byte{1}, []byte{2})
	f.Fuzz(func(t *testing.T, x, y []byte) {
		var a, b field.Num
		copy(a[:], x)
		copy(b[:], y)
		checkPair(t, a, b)
		checkOne(t, a)
	})
}

func BenchmarkMul(b *testing.B) {
	x, y := twoP(-5), p(-7)
	for b.Loop() {
		x = field.Mul(x, y)
	}
}

func BenchmarkInv(b *testing.B) {
	x := twoP(-5)
	for b.Loop() {
		x = field.Inv(x)
	}
}

func BenchmarkRoot(b *testing.B) {
	for b.Loop() {
		field.Root(p(-2))
	}
}
