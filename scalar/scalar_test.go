package scalar_test

import (
	"fmt"
	"slices"
	"testing"

	"introit/scalar"
)

// orderBytes is L, least significant byte first.
var orderBytes = [32]byte{
	0xed, 0xd3, 0xf5, 0x5c, 0x1a, 0x63, 0x12, 0x58, 0xd6, 0x9c, 0xf7, 0xa2, 0xde, 0xf9, 0xde, 0x14,
	31: 0x10,
}

// multiple returns the 64 bytes of k * L + d, which must not be negative.
func multiple(k, d int) []byte {
	out := make([]byte, 64)
	carry := d
	for i := range out {
		if i < len(orderBytes) {
			carry += k * int(orderBytes[i])
		}
		out[i] = byte(carry)
		carry >>= 8
	}
	return out
}

// l returns k * L + d, which must be of at most 256 bits: k is at most 15.
func l(k, d int) scalar.Num {
	b := multiple(k, d)
	if b[32] != 0 {
		panic("more than 256 bits")
	}
	return scalar.Num(b[:32])
}

func small(n byte) scalar.Num { return scalar.Num{n} }

func all() scalar.Num {
	var a scalar.Num
	for i := range a {
		a[i] = 255
	}
	return a
}

// restAll is the remainder of 2^256 - 1: that minus 15L.
func restAll() scalar.Num {
	return scalar.Num{
		0x1c, 0x95, 0x98, 0x8d, 0x74, 0x31, 0xec, 0xd6, 0x70, 0xcf, 0x7d, 0x73, 0xf4, 0x5b, 0xef, 0xc6,
		0xfe, 0xff, 0xff, 0xff, 0xff, 0xff, 0xff, 0xff, 0xff, 0xff, 0xff, 0xff, 0xff, 0xff, 0xff, 0x0f,
	}
}

// halfOf256 is the remainder of 2^255: that minus 7L.
func halfOf256() scalar.Num {
	return scalar.Num{
		0x85, 0x34, 0x47, 0x75, 0x47, 0x4a, 0x7f, 0x97, 0x23, 0xb6, 0x3a, 0x8b, 0xe9, 0x2a, 0xe7, 0x6d,
		0xff, 0xff, 0xff, 0xff, 0xff, 0xff, 0xff, 0xff, 0xff, 0xff, 0xff, 0xff, 0xff, 0xff, 0xff, 0x0f,
	}
}

func wantNum(t *testing.T, what string, got, want scalar.Num) {
	t.Helper()
	if got != want {
		t.Errorf("%s: %x, want %x", what, got, want)
	}
	if !scalar.Good(got) {
		t.Errorf("%s: %x is not less than L", what, got)
	}
}

type edge struct {
	name    string
	a, rest scalar.Num
	good    bool
}

// edges are numbers with their remainders. 16L - 1 is not among them, since it has 257 bits: TestOf has it.
func edges() []edge {
	return []edge{
		{"0", small(0), small(0), true},
		{"1", small(1), small(1), true},
		{"2", small(2), small(2), true},
		{"255", small(255), small(255), true},
		{"2^8", scalar.Num{1: 1}, scalar.Num{1: 1}, true},
		{"2^64", scalar.Num{8: 1}, scalar.Num{8: 1}, true},
		{"2^128", scalar.Num{16: 1}, scalar.Num{16: 1}, true},
		{"2^192", scalar.Num{24: 1}, scalar.Num{24: 1}, true},
		{"2^251", scalar.Num{31: 8}, scalar.Num{31: 8}, true},
		{"2^252", scalar.Num{31: 16}, scalar.Num{31: 16}, true},
		{"L - 2", l(1, -2), l(1, -2), true},
		{"L - 1", l(1, -1), l(1, -1), true},
		{"L", l(1, 0), small(0), false},
		{"L + 1", l(1, 1), small(1), false},
		{"L + 2", l(1, 2), small(2), false},
		{"2L - 2", l(2, -2), l(1, -2), false},
		{"2L - 1", l(2, -1), l(1, -1), false},
		{"2L", l(2, 0), small(0), false},
		{"2L + 1", l(2, 1), small(1), false},
		{"8L - 1", l(8, -1), l(1, -1), false},
		{"8L", l(8, 0), small(0), false},
		{"8L + 1", l(8, 1), small(1), false},
		{"15L - 1", l(15, -1), l(1, -1), false},
		{"15L", l(15, 0), small(0), false},
		{"15L + 1", l(15, 1), small(1), false},
		{"2^255", scalar.Num{31: 128}, halfOf256(), false},
		{"all bits", all(), restAll(), false},
	}
}

func TestGood(t *testing.T) {
	for _, c := range edges() {
		if got := scalar.Good(c.a); got != c.good {
			t.Errorf("Good(%s): %v", c.name, got)
		}
	}
}

// A number differs from L in one byte: each byte decides.
func TestGoodByEachByte(t *testing.T) {
	for i := range 32 {
		a := l(1, 0)
		a[i]++ // no byte of L is 255
		if scalar.Good(a) {
			t.Errorf("Good of L with byte %d greater: true", i)
		}
		a = l(1, 0)
		if a[i] == 0 {
			continue
		}
		a[i]--
		if !scalar.Good(a) {
			t.Errorf("Good of L with byte %d smaller: false", i)
		}
	}
}

func TestOf(t *testing.T) {
	for _, c := range []struct {
		name string
		b    []byte
		want scalar.Num
	}{
		{"nil", nil, small(0)},
		{"no bytes", []byte{}, small(0)},
		{"0", []byte{0}, small(0)},
		{"1", []byte{1}, small(1)},
		{"255", []byte{255}, small(255)},
		{"513", []byte{1, 2}, scalar.Num{1, 2}},
		{"31 bytes", append(make([]byte, 30), 255), scalar.Num{30: 255}},
		{"2^252", append(make([]byte, 31), 16), scalar.Num{31: 16}},
		{"2^256, 33 bytes", append(make([]byte, 32), 1), scalar.Add(restAll(), small(1))},
		{"64 bytes, all 0", make([]byte, 64), small(0)},
		{"16L - 1", multiple(16, -1), l(1, -1)},
		{"16L", multiple(16, 0), small(0)},
		{"16L + 1", multiple(16, 1), small(1)},
		{"255L - 2", multiple(255, -2), l(1, -2)},
		{"65535L", multiple(65535, 0), small(0)},
		{"65535L + 7", multiple(65535, 7), small(7)},
		{"1000003L - 1", multiple(1000003, -1), l(1, -1)},
		{"64 bytes of all bits", slices.Repeat([]byte{255}, 64), scalar.Num{
			0x00, 0x0f, 0x9c, 0x44, 0xe3, 0x11, 0x06, 0xa4, 0x47, 0x93, 0x85, 0x68, 0xa7, 0x1b, 0x0e, 0xd0,
			0x65, 0xbe, 0xf5, 0x17, 0xd2, 0x73, 0xec, 0xce, 0x3d, 0x9a, 0x30, 0x7c, 0x1b, 0x41, 0x99, 0x03,
		}},
	} {
		wantNum(t, "Of "+c.name, scalar.Of(c.b), c.want)
	}
	for _, c := range edges() {
		wantNum(t, "Of "+c.name, scalar.Of(c.a[:]), c.rest)
	}
}

// Trailing zero bytes change no number, and what stands behind the first 64 bytes does not count.
func TestOfLengths(t *testing.T) {
	for n := range 65 {
		b := slices.Repeat([]byte{0xa7}, n)
		want := scalar.Of(append(slices.Clone(b), make([]byte, 64-n)...))
		wantNum(t, fmt.Sprint("Of ", n, " bytes"), scalar.Of(b), want)
	}
	b := slices.Repeat([]byte{0xa7}, 64)
	want := scalar.Of(b)
	for _, further := range [][]byte{{0}, {1}, {255}, orderBytes[:], slices.Repeat([]byte{255}, 1000)} {
		wantNum(t, fmt.Sprint("Of 64 bytes and ", len(further)), scalar.Of(append(slices.Clone(b), further...)), want)
	}
	wantNum(t, "Of 64 zero bytes and 1", scalar.Of(append(make([]byte, 64), 1)), small(0))
}

// R4: what is passed is read up to its end alone, and stays as it is.
func TestOfLeavesItsArgument(t *testing.T) {
	whole := slices.Repeat([]byte{255}, 128)
	for _, n := range []int{0, 1, 31, 32, 33, 63, 64, 65, 100} {
		got := scalar.Of(whole[:n])
		wantNum(t, fmt.Sprint("Of the first ", n, " bytes"), got, scalar.Of(slices.Repeat([]byte{255}, n)))
		for i, x := range whole {
			if x != 255 {
				t.Fatalf("Of the first %d bytes: byte %d became %d", n, i, x)
			}
		}
	}
}

func TestAdd(t *testing.T) {
	for _, c := range []struct {
		name       string
		a, b, want scalar.Num
	}{
		{"0 and 0", small(0), small(0), small(0)},
		{"0 and 1", small(0), small(1), small(1)},
		{"1 and 1", small(1), small(1), small(2)},
		{"255 and 1", small(255), small(1), scalar.Num{0, 1}},
		{"L - 1 and 0", l(1, -1), small(0), l(1, -1)},
		{"L - 2 and 1", l(1, -2), small(1), l(1, -1)},
		{"L - 1 and 1", l(1, -1), small(1), small(0)},
		{"1 and L - 1", small(1), l(1, -1), small(0)},
		{"L - 1 and 2", l(1, -1), small(2), small(1)},
		{"L - 1 and L - 1", l(1, -1), l(1, -1), l(1, -2)},
		{"L and 0", l(1, 0), small(0), small(0)},
		{"L and L", l(1, 0), l(1, 0), small(0)},
		{"15L and L - 1, 16L - 1", l(15, 0), l(1, -1), l(1, -1)},
		{"15L and 15L", l(15, 0), l(15, 0), small(0)},
		{"15L + 1 and 15L - 2", l(15, 1), l(15, -2), l(1, -1)},
		{"all bits and 1", all(), small(1), scalar.Add(restAll(), small(1))},
		{"all bits twice", all(), all(), scalar.Add(restAll(), restAll())},
		{"2^255 twice", scalar.Num{31: 128}, scalar.Num{31: 128}, scalar.Add(restAll(), small(1))},
	} {
		wantNum(t, "Add of "+c.name, scalar.Add(c.a, c.b), c.want)
	}
}

func TestNeg(t *testing.T) {
	for _, c := range []struct {
		name    string
		a, want scalar.Num
	}{
		{"0", small(0), small(0)},
		{"1", small(1), l(1, -1)},
		{"2", small(2), l(1, -2)},
		{"L - 1", l(1, -1), small(1)},
		{"L", l(1, 0), small(0)},
		{"L + 1", l(1, 1), l(1, -1)},
		{"2L - 1", l(2, -1), small(1)},
		{"2L", l(2, 0), small(0)},
		{"2L + 1", l(2, 1), l(1, -1)},
		{"15L - 1", l(15, -1), small(1)},
		{"15L", l(15, 0), small(0)},
		{"15L + 1", l(15, 1), l(1, -1)},
	} {
		wantNum(t, "Neg of "+c.name, scalar.Neg(c.a), c.want)
	}
	for _, c := range edges() {
		wantNum(t, "Neg twice of "+c.name, scalar.Neg(scalar.Neg(c.a)), c.rest)
		wantNum(t, c.name+" and its Neg", scalar.Add(c.a, scalar.Neg(c.a)), small(0))
	}
}

func TestMulAdd(t *testing.T) {
	for _, c := range []struct {
		name          string
		a, b, c, want scalar.Num
	}{
		{"0, 0, 0", small(0), small(0), small(0), small(0)},
		{"0, 5, 7", small(0), small(5), small(7), small(7)},
		{"5, 0, 7", small(5), small(0), small(7), small(7)},
		{"2, 3, 0", small(2), small(3), small(0), small(6)},
		{"2, 3, 4", small(2), small(3), small(4), small(10)},
		{"L - 1, 1, 1", l(1, -1), small(1), small(1), small(0)},
		{"L - 1, L - 1, 0", l(1, -1), l(1, -1), small(0), small(1)},
		{"L - 1, L - 2, 0", l(1, -1), l(1, -2), small(0), small(2)},
		{"L - 1, L - 1, L - 1", l(1, -1), l(1, -1), l(1, -1), small(0)},
		{"L - 1, 2, 0", l(1, -1), small(2), small(0), l(1, -2)},
		{"L, L, L", l(1, 0), l(1, 0), l(1, 0), small(0)},
		{"L, all bits, 3", l(1, 0), all(), small(3), small(3)},
		{"15, L, L - 1, 16L - 1", small(15), l(1, 0), l(1, -1), l(1, -1)},
		{"2, 8L, L - 1, 17L - 1", small(2), l(8, 0), l(1, -1), l(1, -1)},
		{"15L + 1, 15L + 2, 15L + 3", l(15, 1), l(15, 2), l(15, 3), small(5)},
		{"15L - 1, 15L - 2, 15L - 3", l(15, -1), l(15, -2), l(15, -3), l(1, -1)},
		{"2^128, 2^128, 0", scalar.Num{16: 1}, scalar.Num{16: 1}, small(0), scalar.Add(restAll(), small(1))},
		{"2^128, 2^127, 0", scalar.Num{16: 1}, scalar.Num{15: 128}, small(0), halfOf256()},
		{"2^126, 2^126, 1", scalar.Num{15: 64}, scalar.Num{15: 64}, small(1), scalar.Num{0: 1, 31: 16}},
		{"all bits, 1, 0", all(), small(1), small(0), restAll()},
		{"0, 0, all bits", small(0), small(0), all(), restAll()},
	} {
		wantNum(t, "MulAdd of "+c.name, scalar.MulAdd(c.a, c.b, c.c), c.want)
	}
	// (2^256 - 1) * (2^256 - 1) + 2^256 - 1 is (2^256 - 1) * 2^256.
	high := append(make([]byte, 32), slices.Repeat([]byte{255}, 32)...)
	wantNum(t, "MulAdd of all bits thrice", scalar.MulAdd(all(), all(), all()), scalar.Of(high))
}

// A number is as good as its remainder: for each function but Bit and Good.
func TestUsesRemainders(t *testing.T) {
	for _, x := range edges() {
		wantNum(t, "Neg of "+x.name, scalar.Neg(x.a), scalar.Neg(x.rest))
		for _, y := range edges() {
			pair := x.name + " and " + y.name
			wantNum(t, "Add of "+pair, scalar.Add(x.a, y.a), scalar.Add(x.rest, y.rest))
			for _, z := range edges() {
				got, want := scalar.MulAdd(x.a, y.a, z.a), scalar.MulAdd(x.rest, y.rest, z.rest)
				wantNum(t, "MulAdd of "+pair+" and "+z.name, got, want)
			}
		}
	}
}

func TestBitOfOne(t *testing.T) {
	for i := range 256 {
		var a scalar.Num
		a[i/8] = 1 << (i % 8)
		for j := -300; j < 600; j++ {
			if got := scalar.Bit(a, j); got != (i == j) {
				t.Fatalf("Bit %d of 2^%d: %v", j, i, got)
			}
		}
	}
}

func TestBitOfAll(t *testing.T) {
	for i := -300; i < 600; i++ {
		if got := scalar.Bit(all(), i); got != (i >= 0 && i <= 255) {
			t.Errorf("Bit %d of all bits: %v", i, got)
		}
		if scalar.Bit(small(0), i) {
			t.Errorf("Bit %d of 0: true", i)
		}
	}
	for _, i := range []int{-1 << 63, -1<<63 + 8, -1 << 32, -257, -256, -8, -1, 256, 257, 512, 1 << 31, 1 << 32, 1 << 62, 1<<63 - 1} {
		if scalar.Bit(all(), i) {
			t.Errorf("Bit %d of all bits: true", i)
		}
	}
}

// The bit is one of the number, not of its remainder.
func TestBitOfTheNumberItself(t *testing.T) {
	for _, c := range edges() {
		for i := range 256 {
			want := c.a[i/8]/(1<<(i%8))%2 == 1
			if got := scalar.Bit(c.a, i); got != want {
				t.Errorf("Bit %d of %s: %v", i, c.name, got)
			}
		}
	}
	for _, i := range []int{0, 2, 3, 5, 6, 7, 252} {
		if !scalar.Bit(l(1, 0), i) {
			t.Errorf("Bit %d of L: false", i)
		}
	}
	for _, i := range []int{1, 4, 251, 253, 254, 255} {
		if scalar.Bit(l(1, 0), i) {
			t.Errorf("Bit %d of L: true", i)
		}
	}
}

// R5: one call leaves nothing behind for the next.
func TestCallsInTurn(t *testing.T) {
	for _, c := range edges() {
		scalar.Of(slices.Repeat(c.a[:], 2))
		scalar.Neg(c.a)
		scalar.MulAdd(c.a, c.a, c.a)
		wantNum(t, "MulAdd of 2, 3 and 4 after "+c.name, scalar.MulAdd(small(2), small(3), small(4)), small(10))
		wantNum(t, "Of 7 after "+c.name, scalar.Of([]byte{7}), small(7))
	}
}

func Example() {
	order := scalar.Num(orderBytes)
	minusOne := scalar.Neg(scalar.Num{1})
	fmt.Println(scalar.Of(order[:]) == scalar.Num{}, scalar.Good(order), scalar.Good(minusOne))
	fmt.Println(scalar.Add(minusOne, scalar.Num{3})[0], scalar.MulAdd(minusOne, minusOne, scalar.Num{4})[0])
	fmt.Println(scalar.Bit(order, 252), scalar.Bit(order, 253))
	// Output:
	// true false true
	// 2 5
	// true false
}
