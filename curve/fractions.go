package curve

import (
	"introit/field"
	"introit/scalar"
)

// A fractions is the point with x / z and y / z, where t is x y / z and z is not 0. So a sum needs no division, which costs as much as some two hundred products: one alone stands at the end.
type fractions struct{ x, y, z, t field.Num }

func zero() fractions {
	one := field.Of(1)
	return fractions{y: one, z: one}
}

func read(p Point) (fractions, bool) {
	x, y, ok := XY(p)
	if !ok {
		return fractions{}, false
	}
	return fractions{x, y, field.Of(1), field.Mul(x, y)}, true
}

func (a fractions) point() Point {
	inverse := field.Inv(a.z)
	return encode(field.Mul(a.x, inverse), field.Mul(a.y, inverse))
}

// add returns the sum of any two points, of a point and itself too. With x1, y1, x2, y2 for what the fractions stand for, join gets
// 2 (x1 y2 + x2 y1), 2 (y1 y2 + x1 x2), 2 (1 + d x1 x2 y1 y2) and 2 (1 - d x1 x2 y1 y2), each times both z.
func (a fractions) add(b fractions) fractions {
	minus := field.Mul(field.Sub(a.y, a.x), field.Sub(b.y, b.x))
	plus := field.Mul(field.Add(a.y, a.x), field.Add(b.y, b.x))
	z := field.Mul(a.z, b.z)
	t := field.Mul(factor(), field.Mul(a.t, b.t))
	z, t = field.Add(z, z), field.Add(t, t)
	return join(field.Sub(plus, minus), field.Add(plus, minus), field.Add(z, t), field.Sub(z, t))
}

// double returns the sum of a and itself, with fewer products than add: by the curve's equation, 1 + d x^2 y^2 is y^2 - x^2.
func (a fractions) double() fractions {
	xx, yy, zz := square(a.x), square(a.y), square(a.z)
	sum, difference := field.Add(yy, xx), field.Sub(yy, xx)
	product := field.Sub(square(field.Add(a.x, a.y)), sum)
	return join(product, sum, difference, field.Sub(field.Add(zz, zz), difference))
}

// join returns the point with x / xd and y / yd. Both divisors are not 0 for points of the curve, since d is no square.
func join(x, y, xd, yd field.Num) fractions {
	return fractions{field.Mul(x, yd), field.Mul(y, xd), field.Mul(xd, yd), field.Mul(x, y)}
}

// times returns the sum of zero and k times a. Its steps are method expressions.
func (a fractions) times(k scalar.Num) fractions {
	double, add := fractions.double, fractions.add
	sum := zero()
	for i := 8*len(k) - 1; i >= 0; i-- {
		sum = double(sum)
		if scalar.Bit(k, i) {
			sum = add(sum, a)
		}
	}
	return sum
}
