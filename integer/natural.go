package integer

import (
	"math/bits"
	"slices"
)

// natural is the magnitude of an integer: its digits to the base 2^64, the least significant one first, the last one not 0.
type natural []uint64

const (
	// decimalBase is the greatest power of ten that is a digit; texts are read and written in pieces of so many digits.
	decimalBase   = 10_000_000_000_000_000_000
	decimalDigits = 19
	// karatsubaLimit is the number of digits from which dividing a product in three pays.
	karatsubaLimit = 48
)

// trim takes superfluous zeros away.
func trim(a natural) natural {
	for len(a) > 0 && a[len(a)-1] == 0 {
		a = a[:len(a)-1]
	}
	return a
}

func compareNatural(a, b natural) int {
	if len(a) != len(b) {
		if len(a) < len(b) {
			return -1
		}
		return 1
	}
	for i := len(a) - 1; i >= 0; i-- {
		if a[i] < b[i] {
			return -1
		}
		if a[i] > b[i] {
			return 1
		}
	}
	return 0
}

func addNatural(a, b natural) natural {
	if len(a) < len(b) {
		a, b = b, a
	}
	sum := make(natural, len(a)+1)
	copy(sum, a)
	addInto(sum, b)
	return trim(sum)
}

// addInto adds b to the digits of a, which must have room for the sum.
func addInto(a, b natural) {
	var carry uint64
	for i := range b {
		a[i], carry = bits.Add64(a[i], b[i], carry)
	}
	for i := len(b); carry != 0; i++ {
		a[i], carry = bits.Add64(a[i], 0, carry)
	}
}

// subNatural returns a - b; b must not be greater than a.
func subNatural(a, b natural) natural {
	difference := slices.Clone(a)
	subInto(difference, b)
	return trim(difference)
}

// subInto subtracts b from the digits of a, which must not become negative.
func subInto(a, b natural) {
	var borrow uint64
	for i := range b {
		a[i], borrow = bits.Sub64(a[i], b[i], borrow)
	}
	for i := len(b); borrow != 0; i++ {
		a[i], borrow = bits.Sub64(a[i], 0, borrow)
	}
}

// mulAdd multiplies the digits of a by one digit, adds another one, and returns what does not fit.
func mulAdd(a natural, by, plus uint64) uint64 {
	for i := range a {
		high, low := bits.Mul64(a[i], by)
		sum, carry := bits.Add64(low, plus, 0)
		a[i], plus = sum, high+carry
	}
	return plus
}

// addProduct adds b times a digit to the digits of a, and returns what does not fit into the digits of b.
func addProduct(a, b natural, by uint64) uint64 {
	var plus uint64
	for i := range b {
		high, low := bits.Mul64(b[i], by)
		sum, carry := bits.Add64(low, plus, 0)
		high += carry
		sum, carry = bits.Add64(sum, a[i], 0)
		a[i], plus = sum, high+carry
	}
	return plus
}

// subProduct subtracts b times a digit from the digits of a, and returns what is missing above the digits of b.
func subProduct(a, b natural, by uint64) uint64 {
	var minus uint64
	for i := range b {
		high, low := bits.Mul64(b[i], by)
		sum, carry := bits.Add64(low, minus, 0)
		difference, borrow := bits.Sub64(a[i], sum, 0)
		a[i], minus = difference, high+carry+borrow
	}
	return minus
}

func mulNatural(a, b natural) natural {
	if len(a) < len(b) {
		a, b = b, a
	}
	if len(b) == 0 {
		return nil
	}
	if len(b) >= karatsubaLimit {
		return mulLong(a, b)
	}
	product := make(natural, len(a)+len(b))
	for i := range b {
		product[i+len(a)] = addProduct(product[i:], a, b[i])
	}
	return trim(product)
}

// mulLong multiplies long numbers: the pieces of a, as long as b, each by the rule of Karatsuba.
func mulLong(a, b natural) natural {
	product := make(natural, len(a)+len(b)+1)
	for at := 0; at < len(a); at += len(b) {
		piece := trim(a[at:min(at+len(b), len(a))])
		if len(piece) == len(b) {
			addInto(product[at:], karatsuba(piece, b))
		} else {
			addInto(product[at:], mulNatural(piece, b))
		}
	}
	return trim(product)
}

// karatsuba multiplies two numbers of equal length by three products of their halves.
func karatsuba(a, b natural) natural {
	half := (len(a) + 1) / 2
	a0, a1 := trim(a[:half]), trim(a[half:])
	b0, b1 := trim(b[:half]), trim(b[half:])
	low, high := mulNatural(a0, b0), mulNatural(a1, b1)
	middle := mulNatural(addNatural(a0, a1), addNatural(b0, b1))
	subInto(middle, low)
	subInto(middle, high)
	product := make(natural, 2*len(a)+1)
	copy(product, low)
	addInto(product[2*half:], high)
	addInto(product[half:], trim(middle))
	return trim(product)
}

// divDigit divides the digits of a by one digit, in place, and returns the rest.
func divDigit(a natural, by uint64) uint64 {
	var rest uint64
	for i := len(a) - 1; i >= 0; i-- {
		a[i], rest = bits.Div64(rest, a[i], by)
	}
	return rest
}

// divNatural returns the quotient and the rest; b must not be 0.
func divNatural(a, b natural) (quotient, rest natural) {
	if compareNatural(a, b) < 0 {
		return nil, a
	}
	if len(b) == 1 {
		quotient = slices.Clone(a)
		r := divDigit(quotient, b[0])
		return trim(quotient), trim(natural{r})
	}
	shift := uint(bits.LeadingZeros64(b[len(b)-1]))
	divisor := shiftLeft(b, shift)[:len(b)]
	rest = shiftLeft(a, shift)
	quotient = make(natural, len(a)-len(b)+1)
	for i := len(quotient) - 1; i >= 0; i-- {
		quotient[i] = divStep(rest[i:i+len(b)+1], divisor)
	}
	shiftRight(rest, shift)
	return trim(quotient), trim(rest)
}

// divStep subtracts the divisor, whose first bit is 1, from a as often as possible, and returns how often; a has one digit more than the divisor.
func divStep(a, divisor natural) uint64 {
	n := len(divisor)
	guess := guessDigit(a[n], a[n-1], a[n-2], divisor[n-1], divisor[n-2])
	missing := subProduct(a, divisor, guess)
	a[n] -= missing
	// The guess is at most one too great; then the difference has become negative.
	if a[n] != 0 {
		guess--
		var carry uint64
		for i := range divisor {
			a[i], carry = bits.Add64(a[i], divisor[i], carry)
		}
		a[n] += carry
	}
	return guess
}

// guessDigit divides the first three digits of a dividend by the first two of a divisor.
func guessDigit(a2, a1, a0, b1, b0 uint64) uint64 {
	if a2 >= b1 {
		return 1<<64 - 1
	}
	guess, rest := bits.Div64(a2, a1, b1)
	for {
		high, low := bits.Mul64(guess, b0)
		if high < rest || high == rest && low <= a0 {
			return guess
		}
		guess--
		before := rest
		rest += b1
		if rest < before {
			return guess
		}
	}
}

// shiftLeft returns a, shifted by less than 64 bits, with one digit more (which can be 0).
func shiftLeft(a natural, shift uint) natural {
	shifted := make(natural, len(a)+1)
	for i := range a {
		shifted[i] |= a[i] << shift
		shifted[i+1] = a[i] >> (64 - shift)
	}
	return shifted
}

// shiftRight shifts the digits of a, in place, by less than 64 bits.
func shiftRight(a natural, shift uint) {
	for i := range a {
		a[i] >>= shift
		if i+1 < len(a) {
			a[i] |= a[i+1] << (64 - shift)
		}
	}
}

func bitsOf(a natural) int {
	if len(a) == 0 {
		return 0
	}
	return 64*len(a) - bits.LeadingZeros64(a[len(a)-1])
}

// readDigits returns the number with some decimal digits.
func readDigits(s string) natural {
	a := make(natural, 0, len(s)/decimalDigits+1)
	for len(s) > 0 {
		n := (len(s)-1)%decimalDigits + 1
		var piece uint64
		for i := range n {
			piece = piece*10 + uint64(s[i]-'0')
		}
		if over := mulAdd(a, decimalBase, piece); over != 0 {
			a = append(a, over)
		}
		s = s[n:]
	}
	return a
}

// writeDigits returns the decimal digits of a number.
func writeDigits(a natural) string {
	if len(a) == 0 {
		return "0"
	}
	left := slices.Clone(a)
	text := make([]byte, 0, len(a)*20)
	for len(left) > 0 {
		piece := divDigit(left, decimalBase)
		left = trim(left)
		for i := 0; i < decimalDigits && (piece > 0 || len(left) > 0); i++ {
			text = append(text, byte('0'+piece%10))
			piece /= 10
		}
	}
	slices.Reverse(text)
	return string(text)
}
