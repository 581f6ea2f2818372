package field_test

import (
	"fmt"
	"testing"

	"introit/field"
)

// bytes writes a number out: its first byte, thirty bytes of one value, and its last.
func bytes(first, middle, last byte) field.Num {
	var a field.Num
	for i := range a {
		a[i] = middle
	}
	a[0], a[31] = first, last
	return a
}

// p returns P + d, and twoP returns 2P + d, by their bytes; d is from -237 to 18 and from -218 to 37.
func p(d int) field.Num { return bytes(byte(237+d), 255, 127) }

func twoP(d int) field.Num { return bytes(byte(218+d), 255, 255) }

func small(n byte) field.Num { return field.Num{n} }

func wantNum(t *testing.T, what string, got, want field.Num) {
	t.Helper()
	if got != want {
		t.Errorf("%s: %v, want %v", what, got, want)
	}
}

func TestOf(t *testing.T) {
	for _, c := range []struct {
		n    uint64
		want field.Num
	}{
		{0, field.Num{}},
		{1, field.Num{1}},
		{255, field.Num{255}},
		{256, field.Num{0, 1}},
		{258, field.Num{2, 1}},
		{0x0807060504030201, field.Num{1, 2, 3, 4, 5, 6, 7, 8}},
		{1 << 63, field.Num{7: 128}},
		{1<<64 - 1, field.Num{255, 255, 255, 255, 255, 255, 255, 255}},
	} {
		wantNum(t, fmt.Sprint("Of ", c.n), field.Of(c.n), c.want)
	}
}

// The edges, with their remainders: Good, Rest and Odd follow from them.
func edges() []struct {
	name    string
	a, rest field.Num
	good    bool
} {
	return []struct {
		name    string
		a, rest field.Num
		good    bool
	}{
		{"0", small(0), small(0), true},
		{"1", small(1), small(1), true},
		{"2", small(2), small(2), true},
		{"18", small(18), small(18), true},
		{"19", small(19), small(19), true},
		{"20", small(20), small(20), true},
		{"2^64", field.Num{8: 1}, field.Num{8: 1}, true},
		{"2^128", field.Num{16: 1}, field.Num{16: 1}, true},
		{"2^192", field.Num{24: 1}, field.Num{24: 1}, true},
		{"2^254", field.Num{31: 64}, field.Num{31: 64}, true},
		{"P - 237", p(-237), p(-237), true},
		{"P - 2", p(-2), p(-2), true},
		{"P - 1", p(-1), p(-1), true},
		{"P", p(0), small(0), false},
		{"P + 1", p(1), small(1), false},
		{"P + 2", p(2), small(2), false},
		{"P + 18", p(18), small(18), false},
		{"P + 19, 2^255", bytes(0, 0, 128), small(19), false},
		{"P + 20", bytes(1, 0, 128), small(20), false},
		{"2^255 + 2^254", bytes(0, 0, 192), bytes(19, 0, 64), false},
		{"2P - 218", twoP(-218), p(-218), false},
		{"2P - 2", twoP(-2), p(-2), false},
		{"2P - 1", twoP(-1), p(-1), false},
		{"2P", twoP(0), small(0), false},
		{"2P + 1", twoP(1), small(1), false},
		{"2P + 36", twoP(36), small(36), false},
		{"2P + 37, all bits", twoP(37), small(37), false},
	}
}

func TestGoodRestOdd(t *testing.T) {
	for _, c := range edges() {
		if got := field.Good(c.a); got != c.good {
			t.Errorf("Good(%s): %v", c.name, got)
		}
		wantNum(t, "Rest of "+c.name, field.Rest(c.a), c.rest)
		if got, want := field.Odd(c.a), c.rest[0]%2 == 1; got != want {
			t.Errorf("Odd(%s): %v", c.name, got)
		}
	}
}

// A number is as good as its remainder: for each function but Good.
func TestUsesRemainders(t *testing.T) {
	for _, x := range edges() {
		wantNum(t, "Inv of "+x.name, field.Inv(x.a), field.Inv(x.rest))
		r, ok := field.Root(x.a)
		r2, ok2 := field.Root(x.rest)
		if r != r2 || ok != ok2 {
			t.Errorf("Root(%s): %v %v, of its remainder: %v %v", x.name, r, ok, r2, ok2)
		}
		for _, y := range edges() {
			pair := x.name + " and " + y.name
			wantNum(t, "Add of "+pair, field.Add(x.a, y.a), field.Add(x.rest, y.rest))
			wantNum(t, "Sub of "+pair, field.Sub(x.a, y.a), field.Sub(x.rest, y.rest))
			wantNum(t, "Mul of "+pair, field.Mul(x.a, y.a), field.Mul(x.rest, y.rest))
		}
	}
}

func TestAddSubMul(t *testing.T) {
	for _, c := range []struct {
		name          string
		a, b          field.Num
		add, sub, mul field.Num
	}{
		{"0 and 0", small(0), small(0), small(0), small(0), small(0)},
		{"0 and 1", small(0), small(1), small(1), p(-1), small(0)},
		{"1 and 0", small(1), small(0), small(1), small(1), small(0)},
		{"1 and 1", small(1), small(1), small(2), small(0), small(1)},
		{"2 and 3", small(2), small(3), small(5), p(-1), small(6)},
		{"P - 1 and 1", p(-1), small(1), small(0), p(-2), p(-1)},
		{"1 and P - 1", small(1), p(-1), small(0), small(2), p(-1)},
		{"P - 1 and P - 1", p(-1), p(-1), p(-2), small(0), small(1)},
		{"P - 2 and P - 3", p(-2), p(-3), p(-5), small(1), small(6)},
		{"P - 1 and 2", p(-1), small(2), small(1), p(-3), p(-2)},
		{"P and P", p(0), p(0), small(0), small(0), small(0)},
		{"0 and P", small(0), p(0), small(0), small(0), small(0)},
		{"P and 1", p(0), small(1), small(1), p(-1), small(0)},
		{"P + 1 and 2P - 1", p(1), twoP(-1), small(0), small(2), p(-1)},
		{"2P and P + 18", twoP(0), p(18), small(18), p(-18), small(0)},
		{"all bits twice", twoP(37), twoP(37), small(74), small(0), field.Num{0x59, 0x05}}, // 37 * 37 is 1369
		{"all bits and P - 1", twoP(37), p(-1), small(36), small(38), p(-37)},
		{"2^255 twice", bytes(0, 0, 128), bytes(0, 0, 128), small(38), small(0), field.Num{0x69, 0x01}}, // 19 * 19 is 361
		{"2^254 twice", bytes(0, 0, 64), bytes(0, 0, 64), small(19), small(0), bytes(76, 0, 96)},        // a quarter of 361
		{"2^128 and 2^127", field.Num{16: 1}, field.Num{15: 128}, field.Num{15: 128, 16: 1}, field.Num{15: 128}, small(19)},
		{"2^128 twice", field.Num{16: 1}, field.Num{16: 1}, field.Num{16: 2}, small(0), small(38)},
	} {
		wantNum(t, "Add of "+c.name, field.Add(c.a, c.b), c.add)
		wantNum(t, "Sub of "+c.name, field.Sub(c.a, c.b), c.sub)
		wantNum(t, "Mul of "+c.name, field.Mul(c.a, c.b), c.mul)
	}
}

func TestInv(t *testing.T) {
	for _, c := range []struct {
		name    string
		a, want field.Num
	}{
		{"0", small(0), small(0)},
		{"P", p(0), small(0)},
		{"2P", twoP(0), small(0)},
		{"1", small(1), small(1)},
		{"P + 1", p(1), small(1)},
		{"2P + 1", twoP(1), small(1)},
		{"P - 1", p(-1), p(-1)},
		{"2P - 1", twoP(-1), p(-1)},
		{"2", small(2), bytes(247, 255, 63)}, // (P + 1) / 2
		{"P - 2", p(-2), bytes(246, 255, 63)},
		{"(P + 1) / 2", bytes(247, 255, 63), small(2)},
	} {
		wantNum(t, "Inv of "+c.name, field.Inv(c.a), c.want)
	}
	for _, c := range edges() {
		want := small(1)
		if c.rest == small(0) {
			want = small(0)
		}
		wantNum(t, "Inv times "+c.name, field.Mul(field.Inv(c.a), c.a), want)
	}
}

func TestRoot(t *testing.T) {
	minusOne := field.Num{ // the even root of P - 1
		0xb0, 0xa0, 0x0e, 0x4a, 0x27, 0x1b, 0xee, 0xc4, 0x78, 0xe4, 0x2f, 0xad, 0x06, 0x18, 0x43, 0x2f,
		0xa7, 0xd7, 0xfb, 0x3d, 0x99, 0x00, 0x4d, 0x2b, 0x0b, 0xdf, 0xc1, 0x4f, 0x80, 0x24, 0x83, 0x2b,
	}
	for _, c := range []struct {
		name    string
		a, want field.Num
		ok      bool
	}{
		{"0", small(0), small(0), true},
		{"P", p(0), small(0), true},
		{"2P", twoP(0), small(0), true},
		{"1", small(1), p(-1), true}, // 1 is odd, P - 1 is even
		{"P + 1", p(1), p(-1), true},
		{"2P + 1", twoP(1), p(-1), true},
		{"4", small(4), small(2), true},
		{"P + 4", p(4), small(2), true},
		{"9", small(9), p(-3), true},
		{"16", small(16), small(4), true},
		{"2^128", field.Num{16: 1}, field.Num{8: 1}, true},
		{"P - 1", p(-1), minusOne, true},
		{"2P - 1", twoP(-1), minusOne, true},
		{"P - 4", p(-4), field.Add(minusOne, minusOne), true},
		{"2", small(2), small(0), false},
		{"P + 2", p(2), small(0), false},
		{"2P + 2", twoP(2), small(0), false},
		{"P - 2", p(-2), small(0), false},
		{"2P - 2", twoP(-2), small(0), false},
		{"8", small(8), small(0), false},
		{"18", small(18), small(0), false},
	} {
		got, ok := field.Root(c.a)
		if got != c.want || ok != c.ok {
			t.Errorf("Root(%s): %v %v, want %v %v", c.name, got, ok, c.want, c.ok)
		}
	}
}

// The root of a square is the one of the two numbers that is even; twice a square that is not 0 has none.
func TestRootOfSquares(t *testing.T) {
	for _, c := range edges() {
		square := field.Mul(c.a, c.a)
		want := c.rest
		if want[0]%2 == 1 {
			want = field.Sub(small(0), want)
		}
		if got, ok := field.Root(square); got != want || !ok {
			t.Errorf("Root of the square of %s: %v %v, want %v", c.name, got, ok, want)
		}
		if got, ok := field.Root(field.Add(square, square)); got != small(0) || ok != (c.rest == small(0)) {
			t.Errorf("Root of twice the square of %s: %v %v", c.name, got, ok)
		}
	}
}

// R5: one call leaves nothing behind for the next.
func TestCallsInTurn(t *testing.T) {
	for _, c := range edges() {
		field.Inv(c.a)
		field.Root(c.a)
		field.Mul(c.a, c.a)
		wantNum(t, "Mul of 2 and 3 after "+c.name, field.Mul(small(2), small(3)), small(6))
		wantNum(t, "Inv of 2 after "+c.name, field.Inv(small(2)), bytes(247, 255, 63))
	}
}

func Example() {
	minusOne := field.Sub(field.Of(0), field.Of(1))
	two, ok := field.Root(field.Of(4))
	_, none := field.Root(field.Of(2))
	fmt.Println(minusOne[0], minusOne[31], two[0], ok, none)
	// Output:
	// 236 127 2 true false
}
