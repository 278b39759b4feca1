package checker

import (
	"dowel/api"
	"dowel/integer"
	"dowel/rational"
)

// vec is a vector in space.
type vec [3]rational.Rat

// readVec returns the vector with three numbers, if they are canonical.
func readVec(p api.Point) (vec, bool) {
	l, ok := reads(p[:])
	if !ok {
		return vec{}, false
	}
	return vec{l[0], l[1], l[2]}, true
}

func ofInts(v api.Vector) vec {
	return vec{rational.From(v[0]), rational.From(v[1]), rational.From(v[2])}
}

func (a vec) plus(b vec) vec {
	return vec{rational.Add(a[0], b[0]), rational.Add(a[1], b[1]), rational.Add(a[2], b[2])}
}

func (a vec) times(k rational.Rat) vec {
	return vec{rational.Mul(a[0], k), rational.Mul(a[1], k), rational.Mul(a[2], k)}
}

func (a vec) neg() vec { return vec{rational.Neg(a[0]), rational.Neg(a[1]), rational.Neg(a[2])} }

func (a vec) minus(b vec) vec { return a.plus(b.neg()) }

func (a vec) dot(b vec) rational.Rat {
	return rational.Sum(rational.Mul(a[0], b[0]), rational.Mul(a[1], b[1]), rational.Mul(a[2], b[2]))
}

func (a vec) cross(b vec) vec {
	part := func(i, k int) rational.Rat {
		return rational.Sub(rational.Mul(a[i], b[k]), rational.Mul(a[k], b[i]))
	}
	return vec{part(1, 2), part(2, 0), part(0, 1)}
}

func (a vec) isZero() bool { return a[0].Sign() == 0 && a[1].Sign() == 0 && a[2].Sign() == 0 }

// lead returns the first coordinate that is not 0, or 0.
func (a vec) lead() rational.Rat {
	for _, x := range a {
		if x.Sign() != 0 {
			return x
		}
	}
	return rational.Rat{}
}

// isDirection reports whether all coordinates are integers, without a common divisor but 1, and not all 0.
func (a vec) isDirection() bool {
	var divisor integer.Int
	for _, x := range a {
		if integer.Compare(x.Den(), integer.From(1)) != 0 {
			return false
		}
		divisor = integer.Gcd(divisor, x.Num())
	}
	return integer.Compare(divisor, integer.From(1)) == 0
}

// compare orders vectors by their first coordinates that differ.
func (a vec) compare(b vec) int {
	for i := range a {
		if c := rational.Compare(a[i], b[i]); c != 0 {
			return c
		}
	}
	return 0
}
