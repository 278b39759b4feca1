// Package vector calculates with points and directions in space, whose coordinates are rational numbers. It is layer 3.
package vector

import (
	"math"

	"dowel/api"
	"dowel/integer"
	"dowel/rational"
)

// Vec is a point or a direction. Its zero value is the vector 0; it never changes.
type Vec [3]rational.Rat

// combine returns the vector whose coordinates are made of those of two vectors.
func combine(a, b Vec, f func(x, y rational.Rat) rational.Rat) Vec {
	var v Vec
	for i := range v {
		v[i] = f(a[i], b[i])
	}
	return v
}

// Of returns a vector of ints.
func Of(v api.Vector) Vec {
	var w Vec
	for i, n := range v {
		w[i] = rational.From(n)
	}
	return w
}

// Parse returns the vector of plain data that people give.
func Parse(p api.Point) (Vec, api.Errno) { return read(p, rational.Parse) }

// Read returns the vector of plain data of a certificate.
func Read(p api.Point) (Vec, api.Errno) { return read(p, rational.Read) }

func read(p api.Point, number func(api.Number) (rational.Rat, api.Errno)) (Vec, api.Errno) {
	var v Vec
	for i, n := range p {
		a, e := number(n)
		if e != api.OK {
			return Vec{}, e
		}
		v[i] = a
	}
	return v, api.OK
}

// Point returns the plain data of a vector.
func (v Vec) Point() api.Point {
	var p api.Point
	for i := range v {
		p[i] = v[i].Number()
	}
	return p
}

// Integers returns the coordinates as ints.
func (v Vec) Integers() (api.Vector, api.Errno) {
	var w api.Vector
	for i := range v {
		n, ok := v[i].Int()
		if !ok {
			return api.Vector{}, api.ErrForm
		}
		w[i] = n
	}
	return w, api.OK
}

// Add returns the sum.
func Add(a, b Vec) Vec { return combine(a, b, rational.Add) }

// Sub returns the difference.
func Sub(a, b Vec) Vec { return combine(a, b, rational.Sub) }

// Neg returns the negative.
func Neg(a Vec) Vec { return combine(Vec{}, a, rational.Sub) }

// Scale returns the multiple k a.
func Scale(a Vec, k rational.Rat) Vec {
	return combine(a, a, func(x, _ rational.Rat) rational.Rat { return rational.Mul(k, x) })
}

// Dot returns the scalar product.
func Dot(a, b Vec) rational.Rat {
	sum := rational.Mul(a[0], b[0])
	for i := 1; i < len(a); i++ {
		sum = rational.Add(sum, rational.Mul(a[i], b[i]))
	}
	return sum
}

// Cross returns the cross product.
func Cross(a, b Vec) Vec {
	var v Vec
	for i := range v {
		j, k := (i+1)%3, (i+2)%3
		v[i] = rational.Sub(rational.Mul(a[j], b[k]), rational.Mul(a[k], b[j]))
	}
	return v
}

// Det returns the determinant.
func Det(a, b, c Vec) rational.Rat { return Dot(a, Cross(b, c)) }

// IsZero reports whether all coordinates are 0.
func IsZero(a Vec) bool { return Equal(a, Vec{}) }

// Equal reports whether all coordinates are equal.
func Equal(a, b Vec) bool { return Compare(a, b) == 0 }

// Compare returns -1, 0 or 1: vectors are in lexicographic order.
func Compare(a, b Vec) int {
	for i := range a {
		if c := rational.Compare(a[i], b[i]); c != 0 {
			return c
		}
	}
	return 0
}

// Primitive returns the positive multiple whose coordinates are integers without a common divisor.
func Primitive(a Vec) (Vec, api.Errno) {
	if IsZero(a) {
		return Vec{}, api.ErrZero
	}
	if v, e := a.Integers(); e == api.OK && v[0] != math.MinInt && v[1] != math.MinInt && v[2] != math.MinInt {
		return shorten(v), api.OK
	}
	over, under := integer.Int{}, integer.From(1)
	for _, x := range a {
		over = integer.Gcd(over, x.Num())
		common := integer.Gcd(under, x.Den())
		rest, _, _ := integer.DivMod(x.Den(), common)
		under = integer.Mul(under, rest)
	}
	factor, _ := rational.Make(under, over)
	return Scale(a, factor), api.OK
}

// shorten divides ints, not all 0, by their greatest common divisor.
func shorten(v api.Vector) Vec {
	divisor := 0
	for _, n := range v {
		for n != 0 {
			divisor, n = n, divisor%n
		}
	}
	divisor = max(divisor, -divisor)
	for i := range v {
		v[i] /= divisor
	}
	return Of(v)
}

// Parallel reports whether two vectors are multiples of one another, and neither is 0.
func Parallel(a, b Vec) bool {
	return !IsZero(a) && !IsZero(b) && IsZero(Cross(a, b))
}

// Orient returns the orientation of four points.
func Orient(a, b, c, d Vec) int {
	return Det(Sub(b, a), Sub(c, a), Sub(d, a)).Sign()
}
