// Package system writes conditions on vectors of dimensions as rows of linear programs. It serves the layers that find worst cases (40 to 42).
package system

import (
	"dowel/api"
	"dowel/rational"
)

// Sign is how a form is taken: as it is for its greatest value, and multiplied by -1 for its least one.
type Sign func(rational.Rat) rational.Rat

// SignFor returns the sign for the greatest or the least value.
func SignFor(greatest bool) Sign {
	if greatest {
		return func(a rational.Rat) rational.Rat { return a }
	}
	return rational.Neg
}

// Coefficients returns the factor of each of n dimensions in a form with a sign.
func Coefficients(n int, f api.Form, sign Sign) []api.Number {
	l := make([]api.Number, n)
	for i := range l {
		l[i] = "0"
	}
	for _, t := range f.Terms {
		factor, _ := rational.Read(t.Factor)
		l[t.Dimension] = sign(factor).Number()
	}
	return l
}

// Row returns the condition that a form of n dimensions is at most 0.
func Row(n int, f api.Form) api.Row {
	constant, _ := rational.Read(f.Constant)
	return api.Row{Coefficients: Coefficients(n, f, SignFor(true)), Bound: rational.Neg(constant).Number()}
}

// Rows returns the conditions that dimensions lie within their tolerances, two for each of them, and those of constraints.
func Rows(dimensions []api.Dimension, constraints []api.Constraint) []api.Row {
	n := len(dimensions)
	limit := func(dimension int, factor api.Number, bound int) api.Row {
		f := api.Form{Constant: rational.From(-bound).Number(), Terms: []api.Term{{Dimension: dimension, Factor: factor}}}
		return Row(n, f)
	}
	var rows []api.Row
	for i, d := range dimensions {
		rows = append(rows, limit(i, "1", d.Nominal+d.Upper), limit(i, "-1", -d.Nominal-d.Lower))
	}
	for _, c := range constraints {
		rows = append(rows, Row(n, c.Form))
	}
	return rows
}
