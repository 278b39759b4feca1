package integer

import (
	"math/bits"
	"slices"
)

// gcdDigit returns the greatest common divisor of two digits.
func gcdDigit(a, b uint64) uint64 {
	if a == 0 || b == 0 {
		return a | b
	}
	shift := bits.TrailingZeros64(a | b)
	a >>= uint(bits.TrailingZeros64(a))
	for b != 0 {
		b >>= uint(bits.TrailingZeros64(b))
		if a > b {
			a, b = b, a
		}
		b -= a
	}
	return a << uint(shift)
}

// gcdNatural returns the greatest common divisor: as long as both numbers are long, by the rule of Lehmer, which makes many steps of division with the first digits alone.
func gcdNatural(a, b natural) natural {
	if compareNatural(a, b) < 0 {
		a, b = b, a
	}
	for len(b) > 1 {
		if s := simulate(a, b); s.v0 != 0 {
			a, b = combine(a, b, s.u0, s.v0, s.even), combine(a, b, s.u1, s.v1, !s.even)
		} else {
			_, rest := divNatural(a, b)
			a, b = b, rest
		}
	}
	if len(b) == 0 {
		return a
	}
	rest := divDigit(slices.Clone(a), b[0])
	return natural{gcdDigit(rest, b[0])}
}

// steps is what some steps of division make of two numbers a and b: u0 a - v0 b and v1 b - u1 a if even is set, and otherwise their negatives.
type steps struct {
	u0, u1, v0, v1 uint64
	even           bool
}

// simulate makes steps of division with the first 64 bits of a and the bits of b beside them, as long as it is certain that the quotients are right (by the condition of Collins). b has at least two digits, and is not greater than a.
func simulate(a, b natural) steps {
	n := len(a)
	shift := uint(bits.LeadingZeros64(a[n-1]))
	x := a[n-1]<<shift | a[n-2]>>(64-shift)
	var y uint64
	switch len(b) {
	case n:
		y = b[n-1]<<shift | b[n-2]>>(64-shift)
	case n - 1:
		y = b[n-2] >> (64 - shift)
	}
	s := steps{u1: 1}
	var u2, v2 uint64 = 0, 1
	for y >= v2 && x-y >= s.v1+v2 {
		q, r := x/y, x%y
		x, y = y, r
		s.u0, s.u1, u2 = s.u1, u2, s.u1+q*u2
		s.v0, s.v1, v2 = s.v1, v2, s.v1+q*v2
		s.even = !s.even
	}
	return s
}

// combine returns u a - v b if first is set, and otherwise v b - u a; it must not be negative.
func combine(a, b natural, u, v uint64, first bool) natural {
	if !first {
		a, b, u, v = b, a, v, u
	}
	result := make(natural, max(len(a), len(b))+1)
	copy(result, a)
	result[len(a)] = mulAdd(result[:len(a)], u, 0)
	missing := subProduct(result, b, v)
	for i := len(b); missing != 0 && i < len(result); i++ {
		result[i], missing = bits.Sub64(result[i], missing, 0)
	}
	return trim(result)
}
