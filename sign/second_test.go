package sign_test

import (
	"bytes"
	"crypto/ed25519"
	"crypto/sha512"
	"math/big"
	"math/rand"
	"slices"
	"testing"

	"introit/api"
	"introit/curve"
	"introit/scalar"
	"introit/sign"
)

// Two more statements of P10.1 and P10.2: the library's keys and signatures, and the chapter's words by numbers of any size.

// librarys is what the library says of a signature. It takes more keys than the chapter does: those that are not Good.
func librarys(pub, msg, sig []byte) bool {
	return len(pub) == 32 && curve.Good(curve.Point(pub)) && ed25519.Verify(pub, msg, sig)
}

// chapters is what the chapter's words say of it.
func chapters(pub, msg, sig []byte) bool {
	if len(pub) != 32 || len(sig) != 64 {
		return false
	}
	a, first, s := curve.Point(pub), curve.Point(sig[:32]), number(sig[32:])
	if !curve.Good(a) || s.Cmp(order()) >= 0 {
		return false
	}
	plus, _ := curve.Times(num(s), curve.Base())
	multiple, _ := curve.Times(num(factor(first, a, msg)), a)
	minus, _ := curve.Neg(multiple)
	got, ok := curve.Add(plus, minus)
	return ok && got == first
}

func checkVerify(t *testing.T, pub, msg, sig []byte) bool {
	t.Helper()
	want := chapters(pub, msg, sig)
	if other := librarys(pub, msg, sig); other != want {
		t.Fatalf("the chapter says %v of %x %x %x, the library %v", want, pub, msg, sig, other)
	}
	wantVerify(t, "as the chapter and the library say", pub, msg, sig, want)
	return want
}

// chaptersSign is what the chapter's words say of a key and a signature.
func chaptersSign(seed, msg []byte) (pub, sig []byte) {
	h := sha512.Sum512(seed)
	secret := number(h[:32])
	for _, i := range []int{0, 1, 2, 255} {
		secret.SetBit(secret, i, 0)
	}
	secret.SetBit(secret, 254, 1)
	a := point(secret, 0)
	d := sha512.Sum512(slices.Concat(h[32:], msg))
	r := number(d[:])
	r.Mod(r, order())
	return a[:], forged(point(r, 0), a, secret, r, msg)
}

func checkSign(t *testing.T, seed, msg []byte) {
	t.Helper()
	if len(seed) != 32 {
		if s, e := sign.Sign(seed, msg); len(s) != 0 || e != api.ErrArg {
			t.Fatalf("Sign with %x: %x %v", seed, s, e)
		}
		return
	}
	wantSame(t, seed, msg)
	pub, sig := chaptersSign(seed, msg)
	if !bytes.Equal(publicOf(t, seed), pub) || !bytes.Equal(signed(t, seed, msg), sig) {
		t.Fatalf("the chapter says %x %x of %x and %x", pub, sig, seed, msg)
	}
}

func randomBytes(r *rand.Rand, n int) []byte {
	b := make([]byte, n)
	r.Read(b)
	return b
}

func skipIfShort(t *testing.T) {
	if testing.Short() {
		t.Skip("some seconds")
	}
}

func TestRandomSeeds(t *testing.T) {
	skipIfShort(t)
	r := rand.New(rand.NewSource(1))
	for range 150 {
		checkSign(t, randomBytes(r, 32), randomBytes(r, r.Intn(300)))
	}
}

// One bit of the seed more or less is another key.
func TestEachBitOfTheSeed(t *testing.T) {
	for i := range 256 {
		seed := make([]byte, 32)
		seed[i/8] = 1 << (i % 8)
		wantSame(t, seed, seed)
	}
}

// changed returns b with some bytes changed, left out or added.
func changed(r *rand.Rand, b []byte) []byte {
	b = slices.Clone(b)
	switch n := len(b); r.Intn(5) {
	case 0:
		return b[:r.Intn(n+1)]
	case 1:
		return append(b, byte(r.Int()))
	case 2:
		return randomBytes(r, n)
	default:
		if n > 0 {
			b[r.Intn(n)] ^= 1 << r.Intn(8)
		}
	}
	return b
}

func TestRandomChanges(t *testing.T) {
	skipIfShort(t)
	r := rand.New(rand.NewSource(2))
	for range 150 {
		seed, msg := randomBytes(r, 32), randomBytes(r, r.Intn(40))
		parts := [][]byte{publicOf(t, seed), msg, signed(t, seed, msg)}
		if !checkVerify(t, parts[0], parts[1], parts[2]) {
			t.Fatalf("what %x signed is not taken", seed)
		}
		i := r.Intn(3)
		parts[i] = changed(r, parts[i])
		checkVerify(t, parts[0], parts[1], parts[2])
	}
}

// randomNumber is of any size up to 256 bits, mostly less than L.
func randomNumber(r *rand.Rand) *big.Int {
	n := number(randomBytes(r, 32))
	return n.Rsh(n, uint(r.Intn(12)))
}

// Points with parts of small order, and second halves less than L or not: some hold, some don't.
func TestRandomForged(t *testing.T) {
	skipIfShort(t)
	r := rand.New(rand.NewSource(3))
	taken := 0
	for range 300 {
		secret, of := randomNumber(r), randomNumber(r)
		if r.Intn(3) == 0 {
			secret.SetInt64(int64(r.Intn(3)))
		}
		pub, first, msg := point(secret, 2*r.Intn(4)), point(of, 4*r.Intn(2)), randomBytes(r, r.Intn(10))
		sig := forged(first, pub, secret, of, msg)
		if r.Intn(4) == 0 {
			s := num(new(big.Int).Add(number(sig[32:]), timesOrder(int64(r.Intn(3)), 0)))
			copy(sig[32:], s[:])
		}
		if checkVerify(t, pub[:], msg, sig) {
			taken++
		}
	}
	if taken < 30 || taken > 270 {
		t.Errorf("%d of 300 taken: too few or too many to tell", taken)
	}
}

// Random bytes, and parts that are at an edge each.
func TestRandomBytes(t *testing.T) {
	r := rand.New(rand.NewSource(4))
	edges := append(notGood(), turn(0), turn(1), turn(4), turn(6), curve.Base(), curve.Point(num(order())), curve.Point(num(timesOrder(1, -1))), curve.Point(scalar.Num{1}))
	edge := func() []byte {
		e := edges[r.Intn(len(edges))]
		return slices.Clone(e[:])
	}
	for range 300 {
		checkVerify(t, randomBytes(r, 32), randomBytes(r, 5), randomBytes(r, 64))
		checkVerify(t, edge(), randomBytes(r, r.Intn(3)), append(edge(), edge()...))
	}
}

func FuzzSign(f *testing.F) {
	f.Add(someSeed(1), []byte("x"))
	f.Add([]byte{}, []byte{})
	f.Fuzz(checkSign)
}

func FuzzVerify(f *testing.F) {
	for _, c := range known() {
		f.Add(read(c.pub), read(c.msg), read(c.sig))
	}
	f.Fuzz(func(t *testing.T, pub, msg, sig []byte) { checkVerify(t, pub, msg, sig) })
}

func BenchmarkSign(b *testing.B) {
	seed, msg := someSeed(1), someMessage(100)
	for b.Loop() {
		sign.Sign(seed, msg)
	}
}

func BenchmarkVerify(b *testing.B) {
	seed, msg := someSeed(1), someMessage(100)
	pub, _ := sign.Public(seed)
	sig, _ := sign.Sign(seed, msg)
	for b.Loop() {
		sign.Verify(pub, msg, sig)
	}
}
