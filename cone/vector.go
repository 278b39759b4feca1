package cone

import (
	"strings"

	"dowel/integer"
	"dowel/matrix"
	"dowel/rational"
)

// vec is a vector of integers without a common divisor; it never changes.
type vec []integer.Int

// primitive returns the vector that is a positive multiple of some numbers (or 0).
func primitive(l []rational.Rat) vec {
	under := integer.From(1)
	for _, a := range l {
		under = integer.Mul(under, quotient(a.Den(), integer.Gcd(under, a.Den())))
	}
	v := make(vec, len(l))
	for i, a := range l {
		v[i] = integer.Mul(a.Num(), quotient(under, a.Den()))
	}
	return shorten(v)
}

// shorten divides the numbers of a new vector by their greatest common divisor.
func shorten(v vec) vec {
	var divisor integer.Int
	for _, n := range v {
		divisor = integer.Gcd(divisor, n)
	}
	if divisor.Sign() == 0 {
		return v
	}
	for i, n := range v {
		v[i] = quotient(n, divisor)
	}
	return v
}

// quotient divides by an integer that is not 0.
func quotient(a, b integer.Int) integer.Int {
	q, _, _ := integer.DivMod(a, b)
	return q
}

func rationals(v vec) []rational.Rat {
	l := make([]rational.Rat, len(v))
	for i, n := range v {
		l[i], _ = rational.Make(n, integer.From(1))
	}
	return l
}

// subtract takes k times a line away from r.
func subtract(r, line []rational.Rat, k rational.Rat) {
	for i := range r {
		r[i] = rational.Sub(r[i], rational.Mul(k, line[i]))
	}
}

// reduced returns the reduced echelon form of lines, and its pivots.
func reduced(lines []vec) (matrix.Matrix, []int) {
	m := make(matrix.Matrix, len(lines))
	for i, l := range lines {
		m[i] = rationals(l)
	}
	r, pivots, _ := matrix.Reduce(m)
	return r, pivots
}

func dot(a, b vec) integer.Int {
	var sum integer.Int
	for i, x := range a {
		if x.Sign() != 0 && b[i].Sign() != 0 {
			sum = integer.Add(sum, integer.Mul(x, b[i]))
		}
	}
	return sum
}

// combine returns the primitive vector of j a - k b.
func combine(a vec, j integer.Int, b vec, k integer.Int) vec {
	v := make(vec, len(a))
	for i := range v {
		v[i] = integer.Sub(integer.Mul(j, a[i]), integer.Mul(k, b[i]))
	}
	return shorten(v)
}

func negative(v vec) vec {
	w := make(vec, len(v))
	for i, n := range v {
		w[i] = integer.Neg(n)
	}
	return w
}

func isZero(v vec) bool {
	for _, n := range v {
		if n.Sign() != 0 {
			return false
		}
	}
	return true
}

// text returns a text that belongs to no other vector.
func text(v vec) string {
	var b strings.Builder
	for _, n := range v {
		b.WriteString(n.Text())
		b.WriteByte(' ')
	}
	return b.String()
}
