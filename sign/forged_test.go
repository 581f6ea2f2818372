package sign_test

import (
	"crypto/sha512"
	"fmt"
	"math/big"
	"slices"
	"testing"

	"introit/curve"
	"introit/scalar"
)

// Signatures that no seed makes, at the edges of P10.2: a forger chooses the points and the numbers.

func order() *big.Int {
	c, _ := new(big.Int).SetString("27742317777372353535851937790883648493", 10)
	return c.Add(c, new(big.Int).Lsh(big.NewInt(1), 252))
}

// number is what b represents, least significant byte first.
func number(b []byte) *big.Int {
	b = slices.Clone(b)
	slices.Reverse(b)
	return new(big.Int).SetBytes(b)
}

// num writes a number of at most 256 bits.
func num(x *big.Int) [32]byte {
	b := x.FillBytes(make([]byte, 32))
	slices.Reverse(b)
	return [32]byte(b)
}

// timesOrder returns n * L + d.
func timesOrder(n, d int64) *big.Int {
	x := new(big.Int).Mul(order(), big.NewInt(n))
	return x.Add(x, big.NewInt(d))
}

// bytesOf writes 32 bytes out: the first, thirty of one value, and the last.
func bytesOf(first, middle, last byte) curve.Point {
	var a curve.Point
	for i := range a {
		a[i] = middle
	}
	a[0], a[31] = first, last
	return a
}

// p returns P + d as an encoding; d is from -237 to 18.
func p(d int) curve.Point { return bytesOf(byte(237+d), 255, 127) }

// odd returns the encoding with the bit set.
func odd(a curve.Point) curve.Point {
	a[31] |= 128
	return a
}

// turn returns n modulo 8 times a point of order 8: the order is 4 for 2 and 6, 2 for 4, and 1 for 0.
func turn(n int) curve.Point {
	return [8]curve.Point{
		{1},
		curve.Point(read("c7176a703d4dd84fba3c0b760d10670f2a2053fa2c39ccc64ec7fd7792ac037a")),
		{31: 128},
		curve.Point(read("26e8958fc2b227b045c3f489f2ef98f0d5dfac05d3c63339b13802886d53fc05")),
		p(-1),
		curve.Point(read("26e8958fc2b227b045c3f489f2ef98f0d5dfac05d3c63339b13802886d53fc85")),
		{},
		curve.Point(read("c7176a703d4dd84fba3c0b760d10670f2a2053fa2c39ccc64ec7fd7792ac03fa")),
	}[n%8]
}

// point returns n times Base and turn i.
func point(n *big.Int, i int) curve.Point {
	a, ok := curve.Times(num(n), curve.Base())
	b, ok2 := curve.Add(a, turn(i))
	if !ok || !ok2 {
		panic("no point")
	}
	return b
}

// factor is the chapter's k.
func factor(first, pub curve.Point, msg []byte) *big.Int {
	h := sha512.Sum512(slices.Concat(first[:], pub[:], msg))
	k := number(h[:])
	return k.Mod(k, order())
}

// forged returns a signature whose second half is such that S times Base minus k times pub is r times Base, but for what is of small order, if pub is secret times Base, but for that.
func forged(first, pub curve.Point, secret, r *big.Int, msg []byte) []byte {
	s := factor(first, pub, msg)
	s.Mul(s, secret).Add(s, r).Mod(s, order())
	second := num(s)
	return slices.Concat(first[:], second[:])
}

func turnOf(first, pub curve.Point, msg []byte, i int) int {
	return int(new(big.Int).And(factor(first, pub, msg), big.NewInt(7)).Int64()) * i
}

// holdsTimes8 reports whether 8 S times Base is 8 times the first half and 8 k times pub, which is what others ask for.
func holdsTimes8(pub curve.Point, msg, sig []byte) bool {
	first := curve.Point(sig[:32])
	s, _ := curve.Times(scalar.Num(sig[32:]), curve.Base())
	multiple, _ := curve.Times(num(factor(first, pub, msg)), pub)
	sum, _ := curve.Add(first, multiple)
	left, _ := curve.Times(scalar.Num{8}, s)
	right, _ := curve.Times(scalar.Num{8}, sum)
	return left == right
}

// All these hold after multiplication by 8. Without it, those hold whose first half has the one part of small order that k times the key's leaves.
func checkParts(t *testing.T, secret *big.Int) {
	t.Helper()
	r := big.NewInt(12345)
	taken := 0
	for i := range 8 {
		pub := point(secret, i)
		for j := range 8 {
			first := point(r, j)
			for n := range 3 {
				msg := someMessage(n)
				sig := forged(first, pub, secret, r, msg)
				want := (turnOf(first, pub, msg, i)+j)%8 == 0
				wantVerify(t, fmt.Sprintf("key and turn %d, first half and turn %d, message %d", i, j, n), pub[:], msg, sig, want)
				if !holdsTimes8(pub, msg, sig) {
					t.Errorf("key and turn %d, first half and turn %d, message %d: it doesn't hold times 8 either", i, j, n)
				}
				if want {
					taken++
				}
			}
		}
	}
	if taken < 15 || taken > 100 {
		t.Errorf("%d of 192 taken: too few or too many to tell", taken)
	}
}

func TestNoCofactor(t *testing.T) { checkParts(t, big.NewInt(98765)) }

// Keys of order 1, 2, 4 and 8: 0 times Base and a turn.
func TestKeysOfSmallOrder(t *testing.T) { checkParts(t, new(big.Int)) }

// With k of order 1, 2, 4 or 8 alone, and S = 0, the first half is of small order too.
func TestAllOfSmallOrder(t *testing.T) {
	for i := range 8 {
		for j := range 8 {
			for n := range 5 {
				msg, pub, first := someMessage(n), turn(i), turn(j)
				want := (turnOf(first, pub, msg, i)+j)%8 == 0
				wantVerify(t, fmt.Sprintf("turns %d and %d, message %d", i, j, n), pub[:], msg, slices.Concat(first[:], make([]byte, 32)), want)
			}
		}
	}
}

// notGood are no encodings of points. Some of them a careless reader takes for points of small order.
func notGood() []curve.Point {
	l := []curve.Point{odd(curve.Point{1}), odd(p(-1))}
	for d := range 19 {
		l = append(l, p(d), odd(p(d)))
	}
	for _, y := range []byte{2, 7, 8, 11, 12, 13, 17} { // no point has it
		l = append(l, curve.Point{y}, odd(curve.Point{y}))
	}
	return append(l, p(-2), odd(p(-2)))
}

// Who read such a key as a point of small order, or took zeros for it, would take one of these.
func TestKeysThatAreNotGood(t *testing.T) {
	for _, r := range []int64{0, 1, 12345} {
		s := num(big.NewInt(r))
		firsts := []curve.Point{bytesOf(255, 255, 255)}
		for j := range 8 {
			firsts = append(firsts, point(big.NewInt(r), j)) // turn 6 alone is 32 bytes 0
		}
		for _, pub := range notGood() {
			for _, first := range append(firsts, pub, turn(6)) {
				for n := range 4 {
					wantVerify(t, fmt.Sprintf("key %x", pub), pub[:], someMessage(n), slices.Concat(first[:], s[:]), false)
				}
			}
		}
	}
}

// An encoding that is wrong, and the turn that a careless reader reads.
func otherEncodings() []struct {
	first curve.Point
	turn  int
} {
	return []struct {
		first curve.Point
		turn  int
	}{
		{odd(curve.Point{1}), 0},
		{p(1), 0},
		{odd(p(1)), 0},
		{odd(p(-1)), 4},
		{p(0), 6},
		{odd(p(0)), 2},
	}
}

// The point is right, its encoding is not: the comparison is one of bytes.
func TestFirstHalfByAnotherEncoding(t *testing.T) {
	for _, c := range otherEncodings() {
		right := 0
		for i := range 8 {
			for n := range 12 {
				msg, pub := someMessage(n), turn(i)
				if (turnOf(c.first, pub, msg, i)+c.turn)%8 == 0 {
					right++
				}
				wantVerify(t, fmt.Sprintf("key of turn %d, message %d", i, n), pub[:], msg, slices.Concat(c.first[:], make([]byte, 32)), false)
			}
		}
		if right == 0 {
			t.Errorf("%x is never right: too few messages", c.first)
		}
	}
}

func TestFirstHalfThatIsNoPoint(t *testing.T) {
	msg, secret := someMessage(12), big.NewInt(98765)
	pub, one := point(secret, 0), turn(0)
	for _, first := range notGood() {
		if curve.Good(first) {
			t.Errorf("%x is Good", first)
		}
		for _, r := range []int64{0, 1, 12345} {
			wantVerify(t, "first half", pub[:], msg, forged(first, pub, secret, big.NewInt(r), msg), false)
			wantVerify(t, "first half, key of order 1", one[:], msg, forged(first, one, new(big.Int), big.NewInt(r), msg), false)
		}
	}
}

// For a key of order 1, S times Base is all that the first half must be: so S may be chosen.
func checkSecond(t *testing.T, s *big.Int) {
	t.Helper()
	one, first, second := turn(0), point(s, 0), num(s)
	wantVerify(t, "S = "+s.String(), one[:], []byte("x"), slices.Concat(first[:], second[:]), s.Cmp(order()) < 0)
}

func TestSecondHalf(t *testing.T) {
	one := big.NewInt(1)
	for d := int64(-3); d <= 3; d++ {
		for n := int64(1); n <= 15; n++ {
			checkSecond(t, timesOrder(n, d))
		}
	}
	for i := range uint(256) {
		x := new(big.Int).Lsh(one, i)
		checkSecond(t, x)
		checkSecond(t, new(big.Int).Sub(x, one))
	}
	all := new(big.Int).Lsh(one, 256)
	checkSecond(t, all.Sub(all, one))
}

// L with any one byte greater or less.
func TestSecondHalfNearOrder(t *testing.T) {
	for i := range uint(32) {
		d := new(big.Int).Lsh(big.NewInt(1), 8*i)
		checkSecond(t, new(big.Int).Add(order(), d))
		if s := new(big.Int).Sub(order(), d); s.Sign() >= 0 {
			checkSecond(t, s)
		}
	}
}

// A good S, and what has the same remainder modulo L.
func TestSecondHalfWithMore(t *testing.T) {
	for n := range 10 {
		seed, msg := someSeed(n), someMessage(n)
		pub, sig := publicOf(t, seed), signed(t, seed, msg)
		wantVerify(t, "a good S", pub, msg, sig, true)
		for s := number(sig[32:]); ; {
			if s.Add(s, order()); s.BitLen() > 256 {
				break
			}
			second := num(s)
			wantVerify(t, "S and some L", pub, msg, slices.Concat(sig[:32], second[:]), false)
		}
	}
}

// The other sign, of the key, of the first half, or of the second.
func TestOtherSigns(t *testing.T) {
	seed, msg := someSeed(11), someMessage(11)
	pub, sig := publicOf(t, seed), signed(t, seed, msg)
	minusPub, _ := curve.Neg(curve.Point(pub))
	minusFirst, _ := curve.Neg(curve.Point(sig[:32]))
	minusSecond := scalar.Neg(scalar.Num(sig[32:]))
	wantVerify(t, "-key", minusPub[:], msg, sig, false)
	wantVerify(t, "-first half", pub, msg, slices.Concat(minusFirst[:], sig[32:]), false)
	wantVerify(t, "-second half", pub, msg, slices.Concat(sig[:32], minusSecond[:]), false)
	wantVerify(t, "-signature", pub, msg, slices.Concat(minusFirst[:], minusSecond[:]), false)
}
