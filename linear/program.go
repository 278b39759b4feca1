package linear

import (
	"dowel/api"
	"dowel/rational"
)

// row is a row whose numbers have been read.
type row struct {
	coefficients []rational.Rat
	bound        rational.Rat
}

// program is a program whose numbers have been read.
type program struct {
	objective []rational.Rat
	rows      []row
}

// outcome is an outcome with numbers.
type outcome struct {
	kind              int
	value             rational.Rat
	point, duals, ray []rational.Rat
}

// read returns a program, or the error of Check.
func read(p api.Program) (program, api.Errno) {
	if len(p.Objective) > api.MaxVariables || len(p.Rows) > api.MaxRows {
		return program{}, api.ErrLimit
	}
	for _, r := range p.Rows {
		if len(r.Coefficients) != len(p.Objective) {
			return program{}, api.ErrSize
		}
	}
	objective, e := rational.Reads(p.Objective)
	if e != api.OK {
		return program{}, e
	}
	q := program{objective, make([]row, len(p.Rows))}
	for i, r := range p.Rows {
		coefficients, e := rational.Reads(r.Coefficients)
		if e != api.OK {
			return program{}, e
		}
		bound, e := rational.Read(r.Bound)
		if e != api.OK {
			return program{}, e
		}
		q.rows[i] = row{coefficients, bound}
	}
	return q, api.OK
}

// prepare replaces each row by what a function makes of it.
func (p *program) prepare(f func(row) row) {
	for i, r := range p.rows {
		p.rows[i] = f(r)
	}
}

// each returns what a function makes of each number of a list.
func each(l []rational.Rat, f func(rational.Rat) rational.Rat) []rational.Rat {
	made := make([]rational.Rat, len(l))
	for i, a := range l {
		made[i] = f(a)
	}
	return made
}

// dot returns the sum of the products of two lists of the same length.
func dot(a, b []rational.Rat) rational.Rat {
	var sum rational.Rat
	for i, x := range a {
		if x.Sign() != 0 {
			sum = rational.Add(sum, rational.Mul(x, b[i]))
		}
	}
	return sum
}

// holds reports whether a point fulfils all rows.
func (p program) holds(point []rational.Rat) bool {
	for _, r := range p.rows {
		if rational.Compare(dot(r.coefficients, point), r.bound) > 0 {
			return false
		}
	}
	return true
}

// plain returns the plain data of an outcome.
func (o outcome) plain() api.Outcome {
	x := api.Outcome{Kind: o.kind}
	switch o.kind {
	case api.Optimal:
		x.Value, x.Point, x.Duals = o.value.Number(), rational.Numbers(o.point), rational.Numbers(o.duals)
	case api.Infeasible:
		x.Duals = rational.Numbers(o.duals)
	case api.Unbounded:
		x.Point, x.Ray = rational.Numbers(o.point), rational.Numbers(o.ray)
	}
	return x
}
