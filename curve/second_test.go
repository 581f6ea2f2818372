package curve_test

import (
	"crypto/ecdh"
	"crypto/ed25519"
	"crypto/sha512"
	"math/big"
	"math/rand"
	"testing"

	"introit/curve"
	"introit/field"
	"introit/scalar"
)

// A second statement of P9.1 and P9.2: the document's formulas by numbers of any size, and the library's keys.

func big1() *big.Int { return big.NewInt(1) }

func prime() *big.Int {
	return new(big.Int).Sub(new(big.Int).Lsh(big1(), 255), big.NewInt(19))
}

func number(a [32]byte) *big.Int {
	b := make([]byte, 32)
	for i, x := range a {
		b[31-i] = x
	}
	return new(big.Int).SetBytes(b)
}

func num(x *big.Int) [32]byte {
	var a [32]byte
	for i, b := range x.FillBytes(make([]byte, 32)) {
		a[31-i] = b
	}
	return a
}

func modulo(x *big.Int) *big.Int { return x.Mod(x, prime()) }

func product(l ...*big.Int) *big.Int {
	x := big1()
	for _, y := range l {
		modulo(x.Mul(x, y))
	}
	return x
}

func add(x, y *big.Int) *big.Int { return modulo(new(big.Int).Add(x, y)) }

func sub(x, y *big.Int) *big.Int { return modulo(new(big.Int).Sub(x, y)) }

func quotient(x, y *big.Int) *big.Int { return product(x, new(big.Int).ModInverse(y, prime())) }

func d() *big.Int { return quotient(big.NewInt(-121665), big.NewInt(121666)) }

type pair struct{ x, y *big.Int }

func (a pair) onCurve() bool {
	left := sub(product(a.y, a.y), product(a.x, a.x))
	return left.Cmp(add(big1(), product(d(), a.x, a.x, a.y, a.y))) == 0
}

func (a pair) plus(b pair) pair {
	m := product(d(), a.x, b.x, a.y, b.y)
	return pair{
		quotient(add(product(a.x, b.y), product(b.x, a.y)), add(big1(), m)),
		quotient(add(product(a.y, b.y), product(a.x, b.x)), sub(big1(), m)),
	}
}

// times takes the bits from the least to the greatest.
func (a pair) times(k *big.Int) pair {
	sum := pair{new(big.Int), big1()}
	for i := range k.BitLen() {
		if k.Bit(i) == 1 {
			sum = sum.plus(a)
		}
		a = a.plus(a)
	}
	return sum
}

func (a pair) point() curve.Point {
	p := num(a.y)
	p[31] |= byte(a.x.Bit(0)) << 7
	return p
}

// pairOf returns the point of an encoding: of the even x and the odd one, the one that is on the curve and encoded so.
func pairOf(p curve.Point) (pair, bool) {
	y := number(p)
	y.SetBit(y, 255, 0)
	yy := product(y, y)
	xx := quotient(sub(yy, big1()), add(big1(), product(d(), yy)))
	x := new(big.Int).ModSqrt(xx, prime())
	if x == nil {
		return pair{}, false
	}
	for _, a := range []pair{{x, y}, {sub(new(big.Int), x), y}} {
		if y.Cmp(prime()) < 0 && a.onCurve() && a.point() == p {
			return a, true
		}
	}
	return pair{}, false
}

func random(r *rand.Rand) [32]byte {
	var a [32]byte
	r.Read(a[:])
	return a
}

func randomPoint(r *rand.Rand) curve.Point {
	for {
		p := curve.Point(random(r))
		if _, ok := pairOf(p); ok {
			return p
		}
	}
}

func checkOne(t *testing.T, p curve.Point) {
	t.Helper()
	a, want := pairOf(p)
	var x, y field.Num
	if want {
		x, y = num(a.x), num(a.y)
	}
	if gotX, gotY, ok := curve.XY(p); gotX != x || gotY != y || ok != want {
		t.Fatalf("XY of %x: %x %x %v, want %x %x %v", p, gotX, gotY, ok, x, y, want)
	}
	if got := curve.Good(p); got != want {
		t.Fatalf("Good of %x: %v", p, got)
	}
	n, ok := curve.Neg(p)
	if !want {
		wantNone(t, "Neg", n, ok)
		return
	}
	wantPoint(t, "Neg", n, ok, pair{sub(new(big.Int), a.x), a.y}.point())
	got, ok := curve.Of(x, y)
	wantPoint(t, "Of XY", got, ok, p)
}

func checkOf(t *testing.T, x, y field.Num) {
	t.Helper()
	a := pair{modulo(number(x)), modulo(number(y))}
	got, ok := curve.Of(x, y)
	if a.onCurve() {
		wantPoint(t, "Of", got, ok, a.point())
	} else {
		wantNone(t, "Of", got, ok)
	}
}

func checkAdd(t *testing.T, p, q curve.Point) {
	t.Helper()
	a, ok := pairOf(p)
	b, ok2 := pairOf(q)
	got, is := curve.Add(p, q)
	if ok && ok2 {
		wantPoint(t, "Add", got, is, a.plus(b).point())
	} else {
		wantNone(t, "Add", got, is)
	}
}

func checkTimes(t *testing.T, k scalar.Num, p curve.Point) {
	t.Helper()
	a, ok := pairOf(p)
	got, is := curve.Times(k, p)
	if ok {
		wantPoint(t, "Times", got, is, a.times(number(k)).point())
	} else {
		wantNone(t, "Times", got, is)
	}
}

// Each number near 0, P and the powers of 2, with and without the bit.
func TestEncodingsNearEdges(t *testing.T) {
	for n := range 300 {
		checkOne(t, curve.Point{byte(n), byte(n >> 8)})
		checkOne(t, odd([32]byte{byte(n), byte(n >> 8)}))
	}
	for d := -237; d <= 18; d++ {
		checkOne(t, curve.Point(p(d)))
		checkOne(t, odd(p(d)))
	}
	for i := range uint(256) {
		for d := int64(-1); d <= 1; d++ {
			x := new(big.Int).Lsh(big1(), i)
			checkOne(t, num(x.Add(x, big.NewInt(d))))
		}
	}
}

func TestRandomEncodings(t *testing.T) {
	r := rand.New(rand.NewSource(1))
	for range 1000 {
		checkOne(t, random(r))
	}
}

// One bit more or less is another point, or none.
func TestEncodingsWithOneBitChanged(t *testing.T) {
	for _, p := range []curve.Point{curve.Base(), {3}, turn(1), turn(4)} {
		for i := range 256 {
			q := p
			q[i/8] ^= 1 << (i % 8)
			checkOne(t, q)
		}
	}
}

// Of any pairs: those of a point, not reduced too, and with one bit changed; and those of two points.
func TestPairs(t *testing.T) {
	r := rand.New(rand.NewSource(2))
	l := good()
	for range 20 {
		l = append(l, named{"", randomPoint(r)})
	}
	for i, c := range l {
		x, y, _ := curve.XY(c.p)
		_, other, _ := curve.XY(l[(i+1)%len(l)].p)
		checkOf(t, x, other)
		checkOf(t, y, x)
		for _, a := range []field.Num{x, minus(x)} {
			for _, b := range []field.Num{y, minus(y)} {
				checkOf(t, a, b)
				checkOf(t, plus(a), b)
				checkOf(t, a, plus(b))
				checkOf(t, plus(a), plus(b))
			}
		}
		for j := range 256 {
			a, b := x, y
			a[j/8] ^= 1 << (j % 8)
			b[j/8] ^= 1 << (j % 8)
			checkOf(t, a, y)
			checkOf(t, x, b)
		}
	}
	for range 1000 {
		checkOf(t, random(r), random(r))
	}
}

func TestSums(t *testing.T) {
	r := rand.New(rand.NewSource(3))
	l := append(good(), bad()[:6]...)
	for range 10 {
		l = append(l, named{"", randomPoint(r)})
	}
	for _, a := range l {
		for _, b := range l {
			checkAdd(t, a.p, b.p)
		}
	}
	for range 200 {
		checkAdd(t, randomPoint(r), randomPoint(r))
		checkAdd(t, random(r), randomPoint(r))
		checkAdd(t, randomPoint(r), random(r))
	}
}

func TestMultiples(t *testing.T) {
	if testing.Short() {
		t.Skip("some seconds")
	}
	r := rand.New(rand.NewSource(4))
	for _, c := range good() {
		checkTimes(t, order(0), c.p)
		checkTimes(t, bytes(255, 255, 255), c.p)
		checkTimes(t, random(r), c.p)
	}
	for range 100 {
		checkTimes(t, random(r), randomPoint(r))
		checkTimes(t, random(r), random(r))
	}
}

// (j + k) times a point is the sum of j times and k times it: without a carry out of 256 bits, and not modulo L.
func TestTimesOfASum(t *testing.T) {
	r := rand.New(rand.NewSource(5))
	for range 100 {
		j, k, p := random(r), random(r), randomPoint(r)
		j[31], k[31] = j[31]/2, k[31]/2
		a, _ := curve.Times(j, p)
		b, _ := curve.Times(k, p)
		n := new(big.Int).Add(number(j), number(k))
		got, ok := curve.Times(num(n), p)
		wantPoint(t, "Times of a sum", got, ok, sum(t, a, b))
	}
}

// clamped is the number by which the library multiplies, for a key of these bytes.
func clamped(a [32]byte) scalar.Num {
	a[0] &= 248
	a[31] = a[31]&127 | 64
	return a
}

// The public keys of RFC 8032 are multiples of Base.
func TestLibrarysPublicKeys(t *testing.T) {
	r := rand.New(rand.NewSource(6))
	for range 200 {
		seed := random(r)
		h := sha512.Sum512(seed[:])
		got, ok := curve.Times(clamped([32]byte(h[:32])), curve.Base())
		want := ed25519.NewKeyFromSeed(seed[:]).Public().(ed25519.PublicKey)
		wantPoint(t, "Times of Base", got, ok, curve.Point(want))
	}
}

// other returns the number that stands for a point on curve25519: (1 + y) / (1 - y).
func other(p curve.Point) [32]byte {
	_, y, _ := curve.XY(p)
	return field.Mul(field.Add(field.Of(1), y), field.Inv(field.Sub(field.Of(1), y)))
}

// What X25519 makes of a point of curve25519 is what Times makes of the one that corresponds to it.
func TestLibrarysSharedKeys(t *testing.T) {
	r := rand.New(rand.NewSource(7))
	for range 200 {
		k, p := random(r), randomPoint(r)
		u := other(p)
		private, err := ecdh.X25519().NewPrivateKey(k[:])
		if err != nil {
			t.Fatal(err)
		}
		public, err := ecdh.X25519().NewPublicKey(u[:])
		if err != nil {
			t.Fatal(err)
		}
		want, err := private.ECDH(public)
		if err != nil {
			t.Fatal(err)
		}
		got, ok := curve.Times(clamped(k), p)
		if !ok || other(got) != [32]byte(want) {
			t.Fatalf("Times of %x and %x: %x %v", clamped(k), p, got, ok)
		}
	}
}

// What is reckoned from results goes on being right: a long row of sums, multiples and negations.
func TestLongRow(t *testing.T) {
	r := rand.New(rand.NewSource(8))
	p := curve.Base()
	a, _ := pairOf(p)
	for range 30 {
		k, q := random(r), randomPoint(r)
		b, _ := pairOf(q)
		m, _ := curve.Times(k, sum(t, p, q))
		p, _ = curve.Neg(m)
		a = a.plus(b).times(number(k))
		a.x = sub(new(big.Int), a.x)
		wantPoint(t, "row", p, true, a.point())
	}
}

func FuzzPoints(f *testing.F) {
	f.Add([]byte{1}, []byte{3}, []byte{8})
	f.Fuzz(func(t *testing.T, x, y, z []byte) {
		var p, q curve.Point
		var k scalar.Num
		copy(p[:], x)
		copy(q[:], y)
		copy(k[:], z)
		checkOne(t, p)
		checkOf(t, field.Num(p), field.Num(q))
		checkAdd(t, p, q)
		checkTimes(t, k, p)
	})
}

func BenchmarkXY(b *testing.B) {
	for b.Loop() {
		curve.XY(base(2))
	}
}

func BenchmarkAdd(b *testing.B) {
	p := curve.Base()
	for b.Loop() {
		p, _ = curve.Add(p, curve.Base())
	}
}

func BenchmarkTimes(b *testing.B) {
	p := curve.Base()
	for b.Loop() {
		p, _ = curve.Times(order(-2), p)
	}
}
