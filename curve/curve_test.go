package curve_test

import (
	"encoding/hex"
	"fmt"
	"testing"

	"introit/curve"
	"introit/field"
	"introit/scalar"
)

// bytes writes 32 bytes out: the first, thirty of one value, and the last.
func bytes(first, middle, last byte) [32]byte {
	var a [32]byte
	for i := range a {
		a[i] = middle
	}
	a[0], a[31] = first, last
	return a
}

// p returns P + d by its bytes; d is from -237 to 18.
func p(d int) field.Num { return bytes(byte(237+d), 255, 127) }

func twoP() field.Num { return bytes(0xda, 255, 255) }

// odd returns the encoding with the bit set.
func odd(a [32]byte) curve.Point {
	a[31] |= 128
	return a
}

func read(text string) [32]byte {
	b, err := hex.DecodeString(text)
	if err != nil {
		panic(err)
	}
	return [32]byte(b)
}

// base returns n times Base: those with an n from 0 to 4, and 8.
func base(n int) curve.Point {
	return map[int]curve.Point{
		0: {1},
		1: bytes(0x58, 0x66, 0x66),
		2: read("c9a3f86aae465f0e56513864510f3997561fa2c9e85ea21dc2292309f3cd6022"),
		3: read("d4b4f5784868c3020403246717ec169ff79e26608ea126a1ab69ee77d1b16712"),
		4: read("2f1132ca61ab38dff00f2fea3228f24c6c71d58085b80e47e19515cb27e8d047"),
		8: read("b4b937fca95b2f1e93e41e62fc3c78818ff38a66096fad6e7973e5c90006d321"),
	}[n]
}

func minusBase() curve.Point { return odd(base(1)) }

// turn returns n modulo 8 times a point of order 8: the order is 4 for 2 and 6, and 2 for 4.
func turn(n int) curve.Point {
	return [8]curve.Point{
		{1},
		read("c7176a703d4dd84fba3c0b760d10670f2a2053fa2c39ccc64ec7fd7792ac037a"),
		{31: 128},
		read("26e8958fc2b227b045c3f489f2ef98f0d5dfac05d3c63339b13802886d53fc05"),
		bytes(0xec, 255, 127),
		read("26e8958fc2b227b045c3f489f2ef98f0d5dfac05d3c63339b13802886d53fc85"),
		{},
		read("c7176a703d4dd84fba3c0b760d10670f2a2053fa2c39ccc64ec7fd7792ac03fa"),
	}[n%8]
}

// mixed is the sum of Base and turn 1: its order is 8L.
func mixed() curve.Point {
	return read("98519eadf35b995233b51b5cd23e9cc5a28b639b5a4af0ec903cb960d81b7819")
}

type named struct {
	name string
	p    curve.Point
}

// good are points: some of order L, some of an order that is a multiple of it, and all whose order is at most 8.
func good() []named {
	l := []named{
		{"Base", base(1)}, {"-Base", minusBase()}, {"2 Base", base(2)}, {"3 Base", base(3)}, {"8 Base", base(8)},
		{"y = 3", curve.Point{3}}, {"y = 3, odd", odd([32]byte{3})},
		{"y = P - 3", curve.Point(p(-3))}, {"y = P - 3, odd", odd(p(-3))},
		{"Base and turn 1", mixed()},
	}
	for n := range 8 {
		l = append(l, named{fmt.Sprint("turn ", n), turn(n)})
	}
	return l
}

// bad are no encodings of points.
func bad() []named {
	l := []named{
		{"y = 1, x = 0 with the bit", odd([32]byte{1})},
		{"y = P - 1, x = 0 with the bit", odd(p(-1))},
	}
	for _, y := range []byte{2, 7, 8, 11, 12, 13, 17} { // no point has it
		l = append(l, named{fmt.Sprint("y = ", y), curve.Point{y}}, named{fmt.Sprintf("y = %d, odd", y), odd([32]byte{y})})
	}
	for _, d := range []int{-8, -7, -2} { // nor these
		l = append(l, named{fmt.Sprint("y = P + ", d), curve.Point(p(d))}, named{fmt.Sprintf("y = P + %d, odd", d), odd(p(d))})
	}
	for d := range 19 {
		l = append(l, named{fmt.Sprint("P + ", d), curve.Point(p(d))}, named{fmt.Sprintf("P + %d, odd", d), odd(p(d))})
	}
	return l
}

func wantPoint(t *testing.T, what string, got curve.Point, ok bool, want curve.Point) {
	t.Helper()
	if got != want || !ok {
		t.Errorf("%s: %x %v, want %x", what, got, ok, want)
	}
}

func wantNone(t *testing.T, what string, got curve.Point, ok bool) {
	t.Helper()
	if got != (curve.Point{}) || ok {
		t.Errorf("%s: %x %v, want none", what, got, ok)
	}
}

func wantXY(t *testing.T, of string, p curve.Point, wantX, wantY field.Num) {
	t.Helper()
	if x, y, ok := curve.XY(p); x != wantX || y != wantY || !ok {
		t.Errorf("XY of %s: %x %x %v, want %x %x", of, x, y, ok, wantX, wantY)
	}
}

func baseX() field.Num {
	return read("1ad5258f602d56c9b2a7259560c72c695cdcd6fd31e2a4c0fe536ecdd3366921")
}

// turnX returns the even x of the points of order 8, whose y is that of turn 1 or 3.
func turnX() field.Num {
	return read("4ad145c54646a1de38e2e513703c195cbb4ade38329933e9284a3906a0b9d51f")
}

// rootX returns the even root of -1: it is x of a point of order 4.
func rootX() field.Num {
	return read("b0a00e4a271beec478e42fad0618432fa7d7fb3d99004d2b0bdfc14f8024832b")
}

func minus(a field.Num) field.Num { return field.Sub(field.Num{}, a) }

func TestBaseAndZero(t *testing.T) {
	wantPoint(t, "Base", curve.Base(), true, base(1))
	x, y, _ := curve.XY(curve.Base())
	if field.Mul(y, field.Of(5)) != field.Of(4) || field.Odd(x) {
		t.Errorf("Base: %x %x", x, y)
	}
	wantPoint(t, "Zero", curve.Zero(), true, curve.Point{1})
	wantXY(t, "Zero", curve.Zero(), field.Num{}, field.Num{1})
}

func TestGood(t *testing.T) {
	for _, c := range good() {
		if !curve.Good(c.p) {
			t.Errorf("Good(%s): false", c.name)
		}
	}
	for _, c := range bad() {
		if curve.Good(c.p) {
			t.Errorf("Good(%s): true", c.name)
		}
	}
}

func TestXY(t *testing.T) {
	for _, c := range []struct {
		name string
		p    curve.Point
		x, y field.Num
	}{
		{"Base", base(1), baseX(), bytes(0x58, 0x66, 0x66)},
		{"-Base", minusBase(), minus(baseX()), bytes(0x58, 0x66, 0x66)},
		{"turn 0", turn(0), field.Num{}, field.Num{1}},
		{"turn 1", turn(1), turnX(), field.Num(turn(1))},
		{"turn 2", turn(2), minus(rootX()), field.Num{}},
		{"turn 3", turn(3), turnX(), field.Num(turn(3))},
		{"turn 4", turn(4), field.Num{}, p(-1)},
		{"turn 5", turn(5), minus(turnX()), field.Num(turn(3))},
		{"turn 6", turn(6), rootX(), field.Num{}},
		{"turn 7", turn(7), minus(turnX()), field.Num(turn(1))},
	} {
		wantXY(t, c.name, c.p, c.x, c.y)
	}
	for _, c := range bad() {
		if x, y, ok := curve.XY(c.p); x != (field.Num{}) || y != (field.Num{}) || ok {
			t.Errorf("XY of %s: %x %x %v", c.name, x, y, ok)
		}
	}
}

// The pair is on the curve, and has the stated parity; Of is the converse of XY.
func TestXYAndOf(t *testing.T) {
	d := minus(field.Mul(field.Of(121665), field.Inv(field.Of(121666))))
	for _, c := range good() {
		x, y, _ := curve.XY(c.p)
		xx, yy := field.Mul(x, x), field.Mul(y, y)
		if field.Sub(yy, xx) != field.Add(field.Of(1), field.Mul(d, field.Mul(xx, yy))) {
			t.Errorf("%s: %x %x is not on the curve", c.name, x, y)
		}
		if field.Odd(x) != (c.p[31] >= 128) || !field.Good(x) || !field.Good(y) {
			t.Errorf("%s: %x %x", c.name, x, y)
		}
		got, ok := curve.Of(x, y)
		wantPoint(t, "Of XY of "+c.name, got, ok, c.p)
	}
}

// plus returns a + P, not reduced; a is less than P.
func plus(a field.Num) field.Num {
	sum := 0
	for i, x := range p(0) {
		sum += int(a[i]) + int(x)
		a[i] = byte(sum)
		sum >>= 8
	}
	return a
}

func TestOf(t *testing.T) {
	zero, one := field.Num{}, field.Num{1}
	y := field.Num(base(1))
	for _, c := range []struct {
		name string
		x, y field.Num
		want curve.Point
	}{
		{"0, 1", zero, one, turn(0)},
		{"0, P - 1", zero, p(-1), turn(4)},
		{"P, 1", p(0), one, turn(0)},
		{"0, P + 1", zero, p(1), turn(0)},
		{"P, P + 1", p(0), p(1), turn(0)},
		{"2P, 2P - 1", twoP(), plus(p(-1)), turn(4)},
		{"2P, 2P + 1", twoP(), bytes(0xdb, 255, 255), turn(0)},
		{"root, 0", rootX(), zero, turn(6)},
		{"root, P", rootX(), p(0), turn(6)},
		{"root, 2P", rootX(), twoP(), turn(6)},
		{"root + P, P", plus(rootX()), p(0), turn(6)},
		{"-root, 0", minus(rootX()), zero, turn(2)},
		{"-root + P, P", plus(minus(rootX())), p(0), turn(2)},
		{"x + P, y", plus(baseX()), y, base(1)},
		{"x, y + P", baseX(), plus(y), base(1)},
		{"x + P, y + P", plus(baseX()), plus(y), base(1)},
		{"-x, y", minus(baseX()), y, minusBase()},
		{"-x + P, y + P", plus(minus(baseX())), plus(y), minusBase()},
		{"x, -y", baseX(), minus(y), curve.Point(minus(y))},
		{"-x, -y", minus(baseX()), minus(y), odd(minus(y))},
	} {
		got, ok := curve.Of(c.x, c.y)
		wantPoint(t, "Of "+c.name, got, ok, c.want)
	}
}

func TestOfNoPoint(t *testing.T) {
	zero, one, two := field.Num{}, field.Num{1}, field.Num{2}
	y := field.Num(base(1))
	for _, c := range []struct {
		name string
		x, y field.Num
	}{
		{"0, 0", zero, zero},
		{"P, 2P", p(0), twoP()},
		{"1, 0", one, zero},
		{"P - 1, 0", p(-1), zero},
		{"1, 1", one, one},
		{"2P - 1, P + 1", plus(p(-1)), p(1)},
		{"0, 2", zero, two},
		{"0, P + 2", zero, p(2)},
		{"2, 2", two, two},
		{"0, y", zero, y},
		{"x, 0", baseX(), zero},
		{"y, x", y, baseX()},
		{"x + 1, y", field.Add(baseX(), one), y},
		{"x, y + 1", baseX(), field.Add(y, one)},
		{"all bits", bytes(255, 255, 255), bytes(255, 255, 255)},
	} {
		got, ok := curve.Of(c.x, c.y)
		wantNone(t, "Of "+c.name, got, ok)
	}
}

func sum(t *testing.T, p, q curve.Point) curve.Point {
	t.Helper()
	r, ok := curve.Add(p, q)
	if !ok || !curve.Good(r) {
		t.Errorf("Add of %x and %x: %x %v", p, q, r, ok)
	}
	return r
}

func TestAdd(t *testing.T) {
	for _, c := range []struct {
		name       string
		p, q, want curve.Point
	}{
		{"Zero and Zero", base(0), base(0), base(0)},
		{"Zero and Base", base(0), base(1), base(1)},
		{"Base and Base", base(1), base(1), base(2)},
		{"Base and 2 Base", base(1), base(2), base(3)},
		{"2 Base and 2 Base", base(2), base(2), base(4)},
		{"3 Base and Base", base(3), base(1), base(4)},
		{"4 Base and 4 Base", base(4), base(4), base(8)},
		{"2 Base and -Base", base(2), minusBase(), base(1)},
		{"Base and -Base", base(1), minusBase(), base(0)},
		{"Base and order 2", base(1), turn(4), odd(minus(field.Num(base(1))))},
		{"Base and order 8", base(1), turn(1), mixed()},
	} {
		wantPoint(t, c.name, sum(t, c.p, c.q), true, c.want)
		wantPoint(t, c.name+", the other way", sum(t, c.q, c.p), true, c.want)
	}
}

func TestAddOfSmallOrder(t *testing.T) {
	for i := range 8 {
		for j := range 8 {
			wantPoint(t, fmt.Sprintf("turn %d and %d", i, j), sum(t, turn(i), turn(j)), true, turn(i+j))
		}
	}
}

// Any order; Zero changes nothing.
func TestAddEitherWay(t *testing.T) {
	for _, a := range good() {
		wantPoint(t, a.name+" and Zero", sum(t, a.p, curve.Zero()), true, a.p)
		for _, b := range good() {
			wantPoint(t, b.name+" and "+a.name, sum(t, b.p, a.p), true, sum(t, a.p, b.p))
		}
	}
}

func TestAddAnyBracket(t *testing.T) {
	l := []named{
		{"Base", base(1)}, {"-2 Base", odd(base(2))}, {"y = 3", curve.Point{3}},
		{"Base and turn 1", mixed()}, {"turn 2", turn(2)}, {"turn 4", turn(4)}, {"turn 5", turn(5)},
	}
	for _, a := range l {
		for _, b := range l {
			for _, c := range l {
				bracket := a.name + " and (" + b.name + " and " + c.name + ")"
				want := sum(t, sum(t, a.p, b.p), c.p)
				wantPoint(t, bracket, sum(t, a.p, sum(t, b.p, c.p)), true, want)
			}
		}
	}
}

func TestNeg(t *testing.T) {
	for _, c := range []struct {
		name    string
		p, want curve.Point
	}{
		{"Zero", base(0), base(0)},
		{"Base", base(1), minusBase()},
		{"-Base", minusBase(), base(1)},
		{"y = 3", curve.Point{3}, odd([32]byte{3})},
		{"y = P - 3, odd", odd(p(-3)), curve.Point(p(-3))},
		{"turn 1", turn(1), turn(7)},
		{"turn 2", turn(2), turn(6)},
		{"turn 3", turn(3), turn(5)},
		{"turn 4", turn(4), turn(4)},
		{"turn 5", turn(5), turn(3)},
		{"turn 6", turn(6), turn(2)},
		{"turn 7", turn(7), turn(1)},
	} {
		got, ok := curve.Neg(c.p)
		wantPoint(t, "Neg of "+c.name, got, ok, c.want)
	}
	for _, c := range good() {
		n, ok := curve.Neg(c.p)
		wantPoint(t, c.name+" and its Neg", sum(t, c.p, n), ok, curve.Zero())
		x, y, _ := curve.XY(c.p)
		wantXY(t, "Neg of "+c.name, n, minus(x), y)
	}
}

// order returns L + d; d is from -237 to 18.
func order(d int) scalar.Num {
	k := scalar.Num(read("edd3f55c1a631258d69cf7a2def9de1400000000000000000000000000000010"))
	k[0] += byte(d)
	return k
}

func small(n int) scalar.Num { return scalar.Num{byte(n), byte(n >> 8)} }

// factors are numbers with what they are modulo 8, and what they make of Base.
func factors() []struct {
	name string
	k    scalar.Num
	rest int
	base curve.Point
} {
	return []struct {
		name string
		k    scalar.Num
		rest int
		base curve.Point
	}{
		{"0", small(0), 0, base(0)},
		{"1", small(1), 1, base(1)},
		{"2", small(2), 2, base(2)},
		{"3", small(3), 3, base(3)},
		{"8", small(8), 0, base(8)},
		{"L - 1", order(-1), 4, minusBase()},
		{"L", order(0), 5, base(0)},
		{"L + 1", order(1), 6, base(1)},
		{"L + 3", order(3), 0, base(3)},
		{"2^252", scalar.Num{31: 16}, 0, read("b8421c03ad2c038eacd7982913c60229b5d4e7cfcc8b83ec35c79c74b7ad855f")},
		{"2^255", scalar.Num{31: 128}, 0, read("6e4b94a41ca8bd8c8e68ae0970e953eea2824beb01692cfd821625e07f828b41")},
		{"all bits", bytes(255, 255, 255), 7, read("db27fe4b7a4beb8c1b8c38a21e943a852304c9bb3035a5f36626b51162a68f9c")},
	}
}

func TestTimes(t *testing.T) {
	for _, c := range factors() {
		got, ok := curve.Times(c.k, curve.Base())
		wantPoint(t, c.name+" times Base", got, ok, c.base)
		got, ok = curve.Times(c.k, minusBase())
		want, _ := curve.Neg(c.base)
		wantPoint(t, c.name+" times -Base", got, ok, want)
		got, ok = curve.Times(c.k, curve.Zero())
		wantPoint(t, c.name+" times Zero", got, ok, curve.Zero())
	}
}

// Modulo 8, not modulo L: L is 5 there, and its remainder 0.
func TestTimesOfSmallOrder(t *testing.T) {
	for _, c := range factors() {
		for i := range 8 {
			got, ok := curve.Times(c.k, turn(i))
			wantPoint(t, fmt.Sprintf("%s times turn %d", c.name, i), got, ok, turn(i*c.rest))
			got, ok = curve.Times(c.k, sum(t, curve.Base(), turn(i)))
			wantPoint(t, fmt.Sprintf("%s times Base and turn %d", c.name, i), got, ok, sum(t, c.base, turn(i*c.rest)))
		}
	}
}

func TestTimesIsARowOfSums(t *testing.T) {
	for _, c := range good() {
		want := curve.Zero()
		for n := range 40 {
			got, ok := curve.Times(small(n), c.p)
			wantPoint(t, fmt.Sprintf("%d times %s", n, c.name), got, ok, want)
			want = sum(t, want, c.p)
		}
	}
}

// Each bit of k counts, by as many doublings.
func TestTimesOfEachBit(t *testing.T) {
	for _, c := range []named{{"Base", base(1)}, {"turn 1", turn(1)}, {"y = 3", curve.Point{3}}} {
		want := c.p
		for i := range 256 {
			var k scalar.Num
			k[i/8] = 1 << (i % 8)
			got, ok := curve.Times(k, c.p)
			wantPoint(t, fmt.Sprintf("2^%d times %s", i, c.name), got, ok, want)
			want = sum(t, want, want)
		}
	}
}

func TestArgumentsThatAreNotGood(t *testing.T) {
	for _, c := range bad() {
		for _, d := range append(good(), c, bad()[0]) {
			got, ok := curve.Add(c.p, d.p)
			wantNone(t, "Add of "+c.name+" and "+d.name, got, ok)
			got, ok = curve.Add(d.p, c.p)
			wantNone(t, "Add of "+d.name+" and "+c.name, got, ok)
		}
		got, ok := curve.Neg(c.p)
		wantNone(t, "Neg of "+c.name, got, ok)
		for _, f := range factors() {
			got, ok := curve.Times(f.k, c.p)
			wantNone(t, f.name+" times "+c.name, got, ok)
		}
	}
}

// R5: one call leaves nothing behind for the next.
func TestCallsInTurn(t *testing.T) {
	for _, c := range append(good(), bad()...) {
		curve.Add(c.p, c.p)
		curve.Times(order(-1), c.p)
		curve.Neg(c.p)
		wantPoint(t, "Base and Base after "+c.name, sum(t, curve.Base(), curve.Base()), true, base(2))
		got, ok := curve.Times(small(3), curve.Base())
		wantPoint(t, "3 times Base after "+c.name, got, ok, base(3))
	}
}

func Example() {
	b := curve.Base()
	n, _ := curve.Neg(b)
	z, _ := curve.Add(b, n)
	o, _ := curve.Times(order(0), b)
	_, y, ok := curve.XY(b)
	fmt.Println(z == curve.Zero(), o == curve.Zero(), field.Mul(y, field.Of(5))[0], ok)
	fmt.Println(curve.Good(curve.Point{2}), curve.Good(curve.Point{3}))
	// Output:
	// true true 4 true
	// false true
}
