package stackup

import (
	"dowel/api"
	"dowel/rational"
	"dowel/system"
)

// read returns a number that has been checked.
func read(n api.Number) rational.Rat {
	a, _ := rational.Parse(n)
	return a
}

// CheckForm returns OK for a valid form of n dimensions.
func CheckForm(n int, f api.Form) api.Errno {
	if n < 0 || n > api.MaxDimensions {
		return api.ErrRange
	}
	if _, e := rational.Parse(f.Constant); e != api.OK {
		return e
	}
	if len(f.Terms) > api.MaxTerms {
		return api.ErrLimit
	}
	for i, t := range f.Terms {
		if t.Dimension < 0 || t.Dimension >= n {
			return api.ErrNotFound
		}
		if i > 0 && t.Dimension <= f.Terms[i-1].Dimension {
			return api.ErrOrder
		}
		factor, e := rational.Parse(t.Factor)
		if e != api.OK {
			return e
		}
		if factor.Sign() == 0 {
			return api.ErrZero
		}
	}
	return api.OK
}

// readVector returns a vector of n numbers.
func readVector(n int, at []api.Number) ([]rational.Rat, api.Errno) {
	if len(at) != n {
		return nil, api.ErrSize
	}
	return rational.Reads(at)
}

// Value returns the value of a form at a vector of n numbers.
func Value(n int, f api.Form, at []api.Number) (api.Number, api.Errno) {
	if e := CheckForm(n, f); e != api.OK {
		return "", e
	}
	x, e := readVector(n, at)
	if e != api.OK {
		return "", e
	}
	return value(f, x).Number(), api.OK
}

// value returns the value of a valid form.
func value(f api.Form, x []rational.Rat) rational.Rat {
	sum := read(f.Constant)
	for _, t := range f.Terms {
		sum = rational.Add(sum, rational.Mul(read(t.Factor), x[t.Dimension]))
	}
	return sum
}

// factors returns the factor of each of n dimensions.
func factors(n int, f api.Form) []rational.Rat {
	l := make([]rational.Rat, n)
	for _, t := range f.Terms {
		l[t.Dimension] = read(t.Factor)
	}
	return l
}

// Add returns the sum of two forms.
func Add(f, g api.Form) (api.Form, api.Errno) {
	for _, x := range []api.Form{f, g} {
		if e := CheckForm(api.MaxDimensions, x); e != api.OK {
			return api.Form{}, e
		}
	}
	sums := factors(api.MaxDimensions, f)
	for i, factor := range factors(api.MaxDimensions, g) {
		sums[i] = rational.Add(sums[i], factor)
	}
	return join(rational.Add(read(f.Constant), read(g.Constant)), sums)
}

// Scale returns a multiple of a form.
func Scale(f api.Form, factor api.Number) (api.Form, api.Errno) {
	if e := CheckForm(api.MaxDimensions, f); e != api.OK {
		return api.Form{}, e
	}
	by, e := rational.Parse(factor)
	if e != api.OK {
		return api.Form{}, e
	}
	multiples := factors(api.MaxDimensions, f)
	for i, a := range multiples {
		multiples[i] = rational.Mul(a, by)
	}
	return join(rational.Mul(read(f.Constant), by), multiples)
}

// join returns a form of its constant and the factors of all dimensions, of which there are never more than terms. Error: ErrLong.
func join(constant rational.Rat, l []rational.Rat) (api.Form, api.Errno) {
	f := api.Form{Constant: constant.Number()}
	isLong := len(f.Constant) > api.MaxNumber
	for i, factor := range l {
		if factor.Sign() == 0 {
			continue
		}
		t := api.Term{Dimension: i, Factor: factor.Number()}
		isLong = isLong || len(t.Factor) > api.MaxNumber
		f.Terms = append(f.Terms, t)
	}
	if isLong {
		return api.Form{}, api.ErrLong
	}
	return f, api.OK
}

// program returns the linear program whose greatest value, behind the constant, is that of a form with a sign.
func program(p Problem, f api.Form, sign system.Sign) api.Program {
	return api.Program{Objective: system.Coefficients(len(p.Dimensions), f, sign), Rows: system.Rows(p.Dimensions, p.Constraints)}
}
