package checker

import (
	"dowel/api"
	"dowel/rational"
)

// row says that the numbers on the left, times those of a point, add up to at most the number on the right.
type row struct {
	left  []rational.Rat
	right rational.Rat
}

// product returns the sum of the products of two lists of the same length.
func product(a, b []rational.Rat) rational.Rat {
	var sum rational.Rat
	for i, x := range a {
		if x.Sign() != 0 && b[i].Sign() != 0 {
			sum = rational.Add(sum, rational.Mul(x, b[i]))
		}
	}
	return sum
}

// areEqual reports whether two lists of the same length are equal.
func areEqual(a, b []rational.Rat) bool {
	for i, x := range a {
		if rational.Compare(x, b[i]) != 0 {
			return false
		}
	}
	return true
}

// combine returns the sum of rows with so many variables, each one multiplied by a number; false if there is not one for each, or one is negative.
func combine(variables int, rows []row, by []rational.Rat) (row, bool) {
	if len(by) != len(rows) || isNegative(by) {
		return row{}, false
	}
	sum := row{left: make([]rational.Rat, variables)}
	for i, r := range rows {
		if by[i].Sign() == 0 {
			continue
		}
		for k, a := range r.left {
			if a.Sign() != 0 {
				sum.left[k] = rational.Add(sum.left[k], rational.Mul(a, by[i]))
			}
		}
		sum.right = rational.Add(sum.right, rational.Mul(r.right, by[i]))
	}
	return sum, true
}

// isContradiction reports whether a row says that 0 is at most something negative.
func (r row) isContradiction() bool {
	return r.right.Sign() < 0 && areEqual(r.left, make([]rational.Rat, len(r.left)))
}

// holds reports whether a point fulfils all rows.
func holds(rows []row, point []rational.Rat) bool {
	for _, r := range rows {
		if rational.Compare(product(r.left, point), r.right) > 0 {
			return false
		}
	}
	return true
}

// readProgram returns the objective and the rows of a program that is not too large.
func readProgram(p api.Program) (objective []rational.Rat, rows []row, ok bool) {
	if len(p.Objective) > api.MaxVariables || len(p.Rows) > api.MaxRows {
		return nil, nil, false
	}
	objective, ok = reads(p.Objective)
	for _, r := range p.Rows {
		left, isLeft := reads(r.Coefficients)
		right, e := rational.Read(r.Bound)
		if !isLeft || e != api.OK || len(left) != len(p.Objective) {
			return nil, nil, false
		}
		rows = append(rows, row{left, right})
	}
	return objective, rows, ok
}

// provesOutcome reports whether an outcome proves what it says.
func provesOutcome(p api.Program, o api.Outcome) bool {
	objective, rows, ok := readProgram(p)
	point, isPoint := reads(o.Point)
	duals, areDuals := reads(o.Duals)
	ray, isRay := reads(o.Ray)
	if !ok || !isPoint || !areDuals || !isRay {
		return false
	}
	var proves func() bool
	n := len(objective)
	switch o.Kind {
	case api.Optimal:
		proves = func() bool {
			value, e := rational.Read(o.Value)
			sum, ok := combine(n, rows, duals)
			isGreatest := ok && areEqual(sum.left, objective) && rational.Compare(sum.right, value) == 0
			return e == api.OK && isGreatest && len(point) == n && len(ray) == 0 && holds(rows, point) && rational.Compare(product(objective, point), value) == 0
		}
	case api.Infeasible:
		proves = func() bool {
			sum, ok := combine(n, rows, duals)
			return ok && sum.isContradiction() && o.Value == "" && len(point) == 0 && len(ray) == 0
		}
	case api.Unbounded:
		proves = func() bool {
			return o.Value == "" && len(duals) == 0 && len(point) == n && len(ray) == n && holds(rows, point) && leadsOn(rows, ray) && product(objective, ray).Sign() > 0
		}
	default:
		return false
	}
	return proves()
}

// leadsOn reports whether a ray leads out of no row.
func leadsOn(rows []row, ray []rational.Rat) bool {
	for _, r := range rows {
		if product(r.left, ray).Sign() > 0 {
			return false
		}
	}
	return true
}
