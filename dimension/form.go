package dimension

import (
	"slices"

	"dowel/api"
	"dowel/rational"
)

// CheckForm returns OK for a valid form over n dimensions.
func CheckForm(f api.Form, n int) api.Errno {
	if n < 0 || n > api.MaxDimensions {
		return api.ErrRange
	}
	if _, e := rational.Parse(f.Constant); e != api.OK {
		return e
	}
	if len(f.Terms) > api.MaxTerms {
		return api.ErrLimit
	}
	for i, t := range f.Terms {
		if t.Dimension < 0 || t.Dimension >= n {
			return api.ErrRange
		}
		if i > 0 && f.Terms[i-1].Dimension >= t.Dimension {
			return api.ErrOrder
		}
		factor, e := rational.Parse(t.Factor)
		if e != api.OK {
			return e
		}
		if factor.Sign() == 0 {
			return api.ErrZero
		}
	}
	return api.OK
}

// sum is a form with numbers.
type sum struct {
	constant rational.Rat
	factors  map[int]rational.Rat
}

// read returns a valid form with numbers.
func read(f api.Form) sum {
	s := sum{factors: map[int]rational.Rat{}}
	s.constant, _ = rational.Read(f.Constant)
	for _, t := range f.Terms {
		factor, _ := rational.Read(t.Factor)
		s.factors[t.Dimension] = rational.Add(s.factors[t.Dimension], factor)
	}
	return s
}

// form returns the plain data of a form, without factors 0.
func (s sum) form() api.Form {
	var dimensions []int
	for d := range s.factors {
		dimensions = append(dimensions, d)
	}
	slices.Sort(dimensions)
	f := api.Form{Constant: s.constant.Number()}
	for _, d := range dimensions {
		if factor := s.factors[d]; factor.Sign() != 0 {
			f.Terms = append(f.Terms, api.Term{Dimension: d, Factor: factor.Number()})
		}
	}
	return f
}

// Add returns the form whose values are the sums of those of two forms.
func Add(f, g api.Form) api.Form {
	s, t := read(f), read(g)
	s.constant = rational.Add(s.constant, t.constant)
	for d, factor := range t.factors {
		s.factors[d] = rational.Add(s.factors[d], factor)
	}
	return s.form()
}

// Scale returns the form whose values are multiples of those of a form.
func Scale(f api.Form, by rational.Rat) api.Form {
	s := read(f)
	scaled := sum{rational.Mul(s.constant, by), map[int]rational.Rat{}}
	for d, factor := range s.factors {
		scaled.factors[d] = rational.Mul(factor, by)
	}
	return scaled.form()
}

// Value returns the value of a form for some numbers.
func Value(f api.Form, at []rational.Rat) (rational.Rat, api.Errno) {
	value, _ := rational.Read(f.Constant)
	for _, t := range f.Terms {
		if t.Dimension < 0 || t.Dimension >= len(at) {
			return rational.Rat{}, api.ErrSize
		}
		factor, _ := rational.Read(t.Factor)
		value = rational.Add(value, rational.Mul(factor, at[t.Dimension]))
	}
	return value, api.OK
}
