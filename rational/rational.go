// Package rational calculates with exact rational numbers, and reads and writes their canonical texts. It is layer 2.
package rational

import (
	"math/bits"

	"dowel/api"
	"dowel/integer"
)

// Rat is a rational number. Its zero value is 0; it never changes.
type Rat struct {
	num integer.Int
	den integer.Int // 0 stands for 1, so that the zero value is a rational
}

// halfRange bounds the numbers whose products, and sums of two products, are ints.
const halfRange = 1 << 31

// From returns an int as a rational.
func From(n int) Rat { return Rat{num: integer.From(n)} }

// Make returns a quotient of two integers.
func Make(num, den integer.Int) (Rat, api.Errno) {
	switch den.Sign() {
	case 0:
		return Rat{}, api.ErrZero
	case -1:
		num, den = integer.Neg(num), integer.Neg(den)
	}
	divisor := integer.Gcd(num, den)
	return of(quotient(num, divisor), quotient(den, divisor)), api.OK
}

// of returns the rational with a numerator and a denominator without a common divisor.
func of(num, den integer.Int) Rat {
	if isOne(den) {
		return Rat{num: num}
	}
	return Rat{num, den}
}

// ofInts returns num / den for a positive den.
func ofInts(num, den int) Rat {
	if den == 1 {
		return From(num)
	}
	divisor := gcd(num, den)
	if divisor == den {
		return From(num / den)
	}
	return Rat{integer.From(num / divisor), integer.From(den / divisor)}
}

// gcd returns the greatest common divisor of an int and a positive one.
func gcd(a, b int) int {
	if a < 0 {
		a = -a
	}
	for a != 0 {
		a, b = b%a, a
	}
	return b
}

func isOne(a integer.Int) bool {
	n, ok := a.Int()
	return ok && n == 1
}

// quotient divides by a divisor that is not 0.
func quotient(a, divisor integer.Int) integer.Int {
	if isOne(divisor) {
		return a
	}
	q, _, _ := integer.DivMod(a, divisor)
	return q
}

// ints returns the numerator and the denominator, if both are ints.
func (a Rat) ints() (num, den int, ok bool) {
	num, isNum := a.num.Int()
	den, isDen := a.den.Int()
	if den == 0 {
		den = 1
	}
	return num, den, isNum && isDen
}

// isShort reports whether products with another short number are ints.
func isShort(num, den int) bool {
	return -halfRange < num && num < halfRange && den < halfRange
}

// Num returns the numerator.
func (a Rat) Num() integer.Int { return a.num }

// Den returns the denominator.
func (a Rat) Den() integer.Int {
	if a.den.Sign() == 0 {
		return integer.From(1)
	}
	return a.den
}

// Int returns the value as an int, if it is one.
func (a Rat) Int() (int, bool) {
	if a.den.Sign() != 0 {
		return 0, false
	}
	return a.num.Int()
}

// Sign returns -1, 0 or 1.
func (a Rat) Sign() int { return a.num.Sign() }

// Compare returns -1, 0 or 1.
func Compare(a, b Rat) int {
	an, ad, aShort := a.ints()
	bn, bd, bShort := b.ints()
	if aShort && bShort {
		return compareInts(an, ad, bn, bd)
	}
	if s, t := a.Sign(), b.Sign(); s != t {
		if s < t {
			return -1
		}
		return 1
	}
	return integer.Compare(integer.Mul(a.num, b.Den()), integer.Mul(b.num, a.Den()))
}

// compareInts compares a / b and c / d for positive b and d.
func compareInts(a, b, c, d int) int {
	if b == d {
		return order(a < c, a > c)
	}
	if a < 0 != (c < 0) {
		return order(a < 0, c < 0)
	}
	high, low := bits.Mul64(magnitude(a), uint64(d))
	high2, low2 := bits.Mul64(magnitude(c), uint64(b))
	isLess := high < high2 || high == high2 && low < low2
	isGreater := high > high2 || high == high2 && low > low2
	if a < 0 {
		isLess, isGreater = isGreater, isLess
	}
	return order(isLess, isGreater)
}

func order(isLess, isGreater bool) int {
	switch {
	case isLess:
		return -1
	case isGreater:
		return 1
	}
	return 0
}

func magnitude(n int) uint64 {
	if n < 0 {
		return -uint64(n)
	}
	return uint64(n)
}

// Min returns the lesser one.
func Min(a, b Rat) Rat {
	if Compare(a, b) <= 0 {
		return a
	}
	return b
}

// Max returns the greater one.
func Max(a, b Rat) Rat {
	if Compare(a, b) >= 0 {
		return a
	}
	return b
}

// Neg returns the negative.
func Neg(a Rat) Rat { return Rat{integer.Neg(a.num), a.den} }

// Abs returns the magnitude.
func Abs(a Rat) Rat { return Rat{integer.Abs(a.num), a.den} }

// Add returns the sum.
func Add(a, b Rat) Rat {
	an, ad, aInts := a.ints()
	bn, bd, bInts := b.ints()
	if aInts && bInts && isShort(an, ad) && isShort(bn, bd) {
		if ad == bd {
			return ofInts(an+bn, ad)
		}
		return ofInts(an*bd+bn*ad, ad*bd)
	}
	return addLong(a, b)
}

// addLong adds so that no number becomes greater than it must: only a divisor of both denominators can divide the new numerator.
func addLong(a, b Rat) Rat {
	aDen, bDen := a.Den(), b.Den()
	divisor := integer.Gcd(aDen, bDen)
	aRest, bRest := quotient(aDen, divisor), quotient(bDen, divisor)
	num := integer.Add(integer.Mul(a.num, bRest), integer.Mul(b.num, aRest))
	common := integer.Gcd(num, divisor)
	return of(quotient(num, common), integer.Mul(aRest, quotient(bDen, common)))
}

// Sub returns the difference.
func Sub(a, b Rat) Rat { return Add(a, Neg(b)) }

// Mul returns the product.
func Mul(a, b Rat) Rat {
	an, ad, aInts := a.ints()
	bn, bd, bInts := b.ints()
	if aInts && bInts && isShort(an, ad) && isShort(bn, bd) {
		return ofInts(an*bn, ad*bd)
	}
	aDen, bDen := a.Den(), b.Den()
	over, under := integer.Gcd(a.num, bDen), integer.Gcd(b.num, aDen)
	num := integer.Mul(quotient(a.num, over), quotient(b.num, under))
	return of(num, integer.Mul(quotient(aDen, under), quotient(bDen, over)))
}

// Sum returns the sum of all its arguments.
func Sum(l ...Rat) Rat {
	var sum Rat
	for _, a := range l {
		sum = Add(sum, a)
	}
	return sum
}

// Div returns the quotient.
func Div(a, b Rat) (Rat, api.Errno) {
	num, den := b.Den(), b.num
	switch den.Sign() {
	case 0:
		return Rat{}, api.ErrZero
	case -1:
		num, den = integer.Neg(num), integer.Neg(den)
	}
	return Mul(a, of(num, den)), api.OK
}

// Floor returns the greatest integer that is not greater.
func Floor(a Rat) integer.Int {
	if a.den.Sign() == 0 {
		return a.num
	}
	return quotient(a.num, a.den)
}

// Ceil returns the least integer that is not less.
func Ceil(a Rat) integer.Int { return integer.Neg(Floor(Neg(a))) }

// Simplest returns the simplest rational from a to b.
func Simplest(a, b Rat) (Rat, api.Errno) {
	switch {
	case Compare(a, b) > 0:
		return Rat{}, api.ErrOrder
	case a.Sign() <= 0 && b.Sign() >= 0:
		return Rat{}, api.OK
	case a.Sign() < 0:
		return Neg(simplest(Neg(b), Neg(a))), api.OK
	}
	return simplest(a, b), api.OK
}

// simplest returns the simplest rational from a to b, which are positive.
func simplest(a, b Rat) Rat {
	return of(between(a.num, a.Den(), b.num, b.Den()))
}

// between returns the simplest rational from a / b to c / d, which are positive. As long as there is no integer between both, they have the same whole part, and the simplest rational has it, too; what is left of it is the inverse of the simplest one between the inverses.
func between(a, b, c, d integer.Int) (num, den integer.Int) {
	whole, rest, _ := integer.DivMod(a, b)
	if rest.Sign() == 0 {
		return whole, integer.From(1)
	}
	next := integer.Add(whole, integer.From(1))
	rest2 := integer.Sub(c, integer.Mul(whole, d))
	if integer.Compare(rest2, d) >= 0 {
		return next, integer.From(1)
	}
	den, num = between(d, rest2, b, rest)
	return integer.Add(integer.Mul(whole, den), num), den
}
