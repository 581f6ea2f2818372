package curve

import "introit/field"

// oddBit says, in the last byte of a Point, that x is odd. A y less than P leaves it free.
const oddBit = 0x80

// split returns the number that stands for y, and what the bit says of x.
func split(p Point) (field.Num, bool) {
	odd := p[31]&oddBit != 0
	p[31] &^= oddBit
	return field.Num(p), odd
}

// encode returns the encoding of a point that is on the curve.
func encode(x, y field.Num) Point {
	p := Point(field.Rest(y))
	if field.Odd(x) {
		p[31] |= oddBit
	}
	return p
}

// factor returns d, which is -121665 / 121666.
func factor() field.Num {
	return field.Num{
		0xa3, 0x78, 0x59, 0x13, 0xca, 0x4d, 0xeb, 0x75, 0xab, 0xd8, 0x41, 0x41, 0x4d, 0x0a, 0x70, 0x00,
		0x98, 0xe8, 0x79, 0x77, 0x79, 0x40, 0xc7, 0x8c, 0x73, 0xfe, 0x6f, 0x2b, 0xee, 0x6c, 0x03, 0x52,
	}
}

func negative(a field.Num) field.Num { return field.Sub(field.Num{}, a) }

func square(a field.Num) field.Num { return field.Mul(a, a) }

// onCurve reports whether y^2 - x^2 = 1 + d x^2 y^2.
func onCurve(x, y field.Num) bool {
	xx, yy := square(x), square(y)
	product := field.Mul(factor(), field.Mul(xx, yy))
	return field.Sub(yy, xx) == field.Add(field.Of(1), product)
}

// squareOfX returns what x^2 must be for a point with this y: (y^2 - 1) / (d y^2 + 1), whose divisor is never 0, since -1 / d is no square.
func squareOfX(y field.Num) field.Num {
	one, yy := field.Of(1), square(y)
	divisor := field.Add(field.Mul(factor(), yy), one)
	return field.Mul(field.Sub(yy, one), field.Inv(divisor))
}
