package rational

import (
	"strings"

	"dowel/api"
	"dowel/integer"
)

// Parse returns the rational with a text that people give.
func Parse(n api.Number) (Rat, api.Errno) { return parse(n, api.MaxNumber) }

// Read returns the rational with a text of a certificate.
func Read(n api.Number) (Rat, api.Errno) { return parse(n, api.MaxBytes) }

// Parses returns the rationals with the texts of a list.
func Parses(l []api.Number) ([]Rat, api.Errno) { return parses(l, Parse) }

// Reads returns the rationals with the texts of a list of a certificate.
func Reads(l []api.Number) ([]Rat, api.Errno) { return parses(l, Read) }

func parses(l []api.Number, parse func(api.Number) (Rat, api.Errno)) ([]Rat, api.Errno) {
	values := make([]Rat, len(l))
	for i, n := range l {
		a, e := parse(n)
		if e != api.OK {
			return nil, e
		}
		values[i] = a
	}
	return values, api.OK
}

// parse returns the rational with a text of at most so many bytes.
func parse(n api.Number, most int) (Rat, api.Errno) {
	s := string(n)
	if len(s) > most {
		return Rat{}, api.ErrLong
	}
	over, under, isFraction := strings.Cut(s, "/")
	if !isDigits(strings.TrimPrefix(over, "-")) || isFraction && !isDigits(under) {
		return Rat{}, api.ErrSyntax
	}
	if isFraction && strings.Trim(under, "0") == "" {
		return Rat{}, api.ErrZero
	}
	num, e := integer.Parse(over)
	if e != api.OK || !isFraction {
		return Rat{num: num}, e
	}
	den, e := integer.Parse(under)
	if e != api.OK {
		return Rat{}, e
	}
	if isOne(den) || !isOne(integer.Gcd(num, den)) {
		return Rat{}, api.ErrForm
	}
	return Rat{num, den}, api.OK
}

func isDigits(s string) bool {
	for i := range len(s) {
		if s[i] < '0' || s[i] > '9' {
			return false
		}
	}
	return len(s) > 0
}

// Number returns the text of a rational.
func (a Rat) Number() api.Number {
	if a.den.Sign() == 0 {
		return api.Number(a.num.Text())
	}
	return api.Number(a.num.Text() + "/" + a.den.Text())
}

// Numbers returns the texts of the rationals of a list.
func Numbers(l []Rat) []api.Number {
	texts := make([]api.Number, len(l))
	for i, a := range l {
		texts[i] = a.Number()
	}
	return texts
}
