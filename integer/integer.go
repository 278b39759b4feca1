// Package integer calculates with integers of any size. It is layer 1.
package integer

import (
	"math"
	"math/bits"
	"strconv"

	"dowel/api"
)

// MaxPower is the greatest exponent of Power.
const MaxPower = 64

// Int is an integer. Its zero value is 0; it never changes.
type Int struct {
	small int    // the integer, if it is an int
	large *large // otherwise its digits
}

// large is an integer that is no int.
type large struct {
	negative bool
	digits   natural
}

// From returns an int as an integer.
func From(n int) Int { return Int{small: n} }

// Parse returns the integer with a text.
func Parse(s string) (Int, api.Errno) {
	if len(s) > api.MaxBytes {
		return Int{}, api.ErrLong
	}
	digits, negative := s, false
	if len(s) > 0 && s[0] == '-' {
		digits, negative = s[1:], true
	}
	if !isDigits(digits) {
		return Int{}, api.ErrSyntax
	}
	if digits[0] == '0' && (len(digits) > 1 || negative) {
		return Int{}, api.ErrForm
	}
	return signed(readDigits(digits), negative), api.OK
}

func isDigits(s string) bool {
	for i := range len(s) {
		if s[i] < '0' || s[i] > '9' {
			return false
		}
	}
	return len(s) > 0
}

// signed returns the integer with a magnitude and a sign: as an int, if it is one, so that each integer is kept in one way only.
func signed(digits natural, negative bool) Int {
	if len(digits) == 0 {
		return Int{}
	}
	if len(digits) == 1 {
		if !negative && digits[0] <= math.MaxInt {
			return Int{small: int(digits[0])}
		}
		if negative && digits[0] <= math.MaxInt+1 {
			return Int{small: int(-digits[0])}
		}
	}
	return Int{large: &large{negative, digits}}
}

// parts returns the magnitude of an integer, and whether it is negative.
func parts(a Int) (digits natural, negative bool) {
	if a.large != nil {
		return a.large.digits, a.large.negative
	}
	if a.small == 0 {
		return nil, false
	}
	return natural{magnitude(a.small)}, a.small < 0
}

// magnitude returns that of an int, also of the least one.
func magnitude(n int) uint64 {
	if n < 0 {
		return -uint64(n)
	}
	return uint64(n)
}

// Text returns the text of an integer.
func (a Int) Text() string {
	if a.large == nil {
		return strconv.Itoa(a.small)
	}
	text := writeDigits(a.large.digits)
	if a.large.negative {
		return "-" + text
	}
	return text
}

// Int returns an integer as an int, if it is one.
func (a Int) Int() (int, bool) { return a.small, a.large == nil }

// Sign returns -1, 0 or 1.
func (a Int) Sign() int {
	switch {
	case a.large != nil && a.large.negative || a.small < 0:
		return -1
	case a.large != nil || a.small > 0:
		return 1
	}
	return 0
}

// Bits returns the number of binary digits of the magnitude.
func (a Int) Bits() int {
	digits, _ := parts(a)
	return bitsOf(digits)
}

// Compare returns -1, 0 or 1.
func Compare(a, b Int) int {
	if a.large == nil && b.large == nil {
		switch {
		case a.small < b.small:
			return -1
		case a.small > b.small:
			return 1
		}
		return 0
	}
	x, xNegative := parts(a)
	y, yNegative := parts(b)
	switch {
	case xNegative && !yNegative:
		return -1
	case !xNegative && yNegative:
		return 1
	case xNegative:
		return compareNatural(y, x)
	}
	return compareNatural(x, y)
}

// Neg returns the negative.
func Neg(a Int) Int {
	if a.large == nil && a.small != math.MinInt {
		return Int{small: -a.small}
	}
	digits, negative := parts(a)
	return signed(digits, !negative)
}

// Abs returns the magnitude.
func Abs(a Int) Int {
	if a.Sign() < 0 {
		return Neg(a)
	}
	return a
}

// Add returns the sum.
func Add(a, b Int) Int {
	if a.large == nil && b.large == nil {
		sum := a.small + b.small
		// The sum is too great for an int exactly if its sign differs from those of both.
		if (a.small^sum)&(b.small^sum) >= 0 {
			return Int{small: sum}
		}
	}
	x, xNegative := parts(a)
	y, yNegative := parts(b)
	if xNegative == yNegative {
		return signed(addNatural(x, y), xNegative)
	}
	if compareNatural(x, y) >= 0 {
		return signed(subNatural(x, y), xNegative)
	}
	return signed(subNatural(y, x), yNegative)
}

// Sub returns the difference.
func Sub(a, b Int) Int { return Add(a, Neg(b)) }

// Mul returns the product.
func Mul(a, b Int) Int {
	if a.large == nil && b.large == nil {
		high, low := bits.Mul64(magnitude(a.small), magnitude(b.small))
		if high == 0 && low <= math.MaxInt {
			return Int{small: a.small * b.small}
		}
	}
	x, xNegative := parts(a)
	y, yNegative := parts(b)
	return signed(mulNatural(x, y), xNegative != yNegative)
}

// Sum returns the sum of all its arguments.
func Sum(l ...Int) Int {
	var sum Int
	for _, a := range l {
		sum = Add(sum, a)
	}
	return sum
}

// DivMod returns the quotient, rounded down, and the rest.
func DivMod(a, b Int) (q, r Int, e api.Errno) {
	if b.Sign() == 0 {
		return Int{}, Int{}, api.ErrZero
	}
	if a.large == nil && b.large == nil && a.small != math.MinInt {
		quotient, rest := a.small/b.small, a.small%b.small
		if rest != 0 && rest < 0 != (b.small < 0) {
			quotient, rest = quotient-1, rest+b.small
		}
		return Int{small: quotient}, Int{small: rest}, api.OK
	}
	x, xNegative := parts(a)
	y, yNegative := parts(b)
	quotient, rest := divNatural(x, y)
	q, r = signed(quotient, xNegative != yNegative), signed(rest, xNegative)
	if len(rest) > 0 && xNegative != yNegative {
		q, r = Sub(q, From(1)), Add(r, b)
	}
	return q, r, api.OK
}

// Gcd returns the greatest common divisor.
func Gcd(a, b Int) Int {
	if a.large == nil && b.large == nil {
		divisor := gcdDigit(magnitude(a.small), magnitude(b.small))
		if divisor <= math.MaxInt {
			return Int{small: int(divisor)}
		}
		return signed(natural{divisor}, false)
	}
	x, _ := parts(a)
	y, _ := parts(b)
	return signed(gcdNatural(x, y), false)
}

// Power returns a power.
func Power(a Int, n int) (Int, api.Errno) {
	if n < 0 || n > MaxPower {
		return Int{}, api.ErrRange
	}
	power := From(1)
	for bit := MaxPower; bit > 0; bit /= 2 {
		power = Mul(power, power)
		if n&bit != 0 {
			power = Mul(power, a)
		}
	}
	return power, api.OK
}
