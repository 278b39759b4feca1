package piecewise

import (
	"slices"

	"dowel/api"
	"dowel/dimension"
	"dowel/linear"
	"dowel/rational"
	"dowel/stackup"
	"dowel/system"
)

// question is the question for the greatest value of a valid expression with a sign.
type question struct {
	problem stackup.Problem
	expr    api.Expr
	rows    []api.Row // of the problem
	sign    system.Sign
}

// ask returns a question, or the error of Check.
func ask(p stackup.Problem, x api.Expr, greatest bool) (*question, api.Errno) {
	if e := Check(p, x); e != api.OK {
		return nil, e
	}
	return &question{p, x, system.Rows(p.Dimensions, p.Constraints), system.SignFor(greatest)}, api.OK
}

// program returns the constant of the form of a case, and the linear program for its terms with the sign.
func (q *question) program(choice []int) (constant rational.Rat, p api.Program) {
	form, region, _ := Case(q.expr, choice)
	n := len(q.problem.Dimensions)
	p = api.Program{Objective: system.Coefficients(n, form, q.sign), Rows: slices.Clone(q.rows)}
	for _, f := range region {
		p.Rows = append(p.Rows, system.Row(n, f))
	}
	constant, _ = rational.Read(form.Constant)
	return constant, p
}

// worst returns a worst case of an expression.
func worst(p stackup.Problem, x api.Expr, greatest bool) (api.Worst, api.Errno) {
	q, e := ask(p, x, greatest)
	if e != api.OK {
		return api.Worst{}, e
	}
	var w api.Worst
	var best rational.Rat // with the sign
	found := false
	for choice := range choices(alternatives(x)) {
		constant, program := q.program(choice)
		o, e := linear.Solve(program)
		if e != api.OK {
			return api.Worst{}, e
		}
		w.Cases = append(w.Cases, api.Case{Choice: slices.Clone(choice), Duals: o.Duals})
		if o.Kind != api.Optimal {
			continue
		}
		value, _ := rational.Read(o.Value)
		value = rational.Add(q.sign(constant), value)
		if !found || rational.Compare(value, best) > 0 {
			found, best, w.At = true, value, o.Point
		}
	}
	if !found {
		return api.Worst{}, api.ErrInfeasible
	}
	w.Value = q.sign(best).Number()
	return w, api.OK
}

// Verify returns OK if a worst case is one.
func Verify(p stackup.Problem, x api.Expr, greatest bool, w api.Worst) api.Errno {
	q, e := ask(p, x, greatest)
	if e != api.OK {
		return e
	}
	value, e := rational.Read(w.Value)
	if e != api.OK || !q.attains(w.At, value) || len(w.Cases) != Count(x) {
		return api.ErrCertificate
	}
	i := 0
	for choice := range choices(alternatives(x)) {
		if !slices.Equal(w.Cases[i].Choice, choice) || !q.proves(w.Cases[i], value) {
			return api.ErrCertificate
		}
		i++
	}
	return api.OK
}

// attains reports whether a vector is permitted, and the expression has a value there.
func (q *question) attains(at []api.Number, value rational.Rat) bool {
	if ok, e := stackup.Permitted(q.problem, at); e != api.OK || !ok {
		return false
	}
	x, _ := rational.Reads(at)
	v, e := dimension.Evaluate(q.expr, x)
	return e == api.OK && rational.Compare(v, value) == 0
}

// proves reports whether a case proves that no value in its region is greater than a value; less, if the least one is asked for.
func (q *question) proves(c api.Case, value rational.Rat) bool {
	duals, e := rational.Reads(c.Duals)
	constant, program := q.program(c.Choice)
	isNegative := func(a rational.Rat) bool { return a.Sign() < 0 }
	if e != api.OK || len(duals) != len(program.Rows) || slices.ContainsFunc(duals, isNegative) {
		return false
	}
	left, right := combination(program, duals)
	isZero, isGoal := true, true
	for i, n := range program.Objective {
		goal, _ := rational.Read(n)
		isZero = isZero && left[i].Sign() == 0
		isGoal = isGoal && rational.Compare(left[i], goal) == 0
	}
	return isZero && right.Sign() < 0 || isGoal && rational.Compare(right, q.sign(rational.Sub(value, constant))) <= 0
}

// combination returns the sum of the rows of a program, multiplied by numbers.
func combination(p api.Program, by []rational.Rat) (left []rational.Rat, right rational.Rat) {
	left = make([]rational.Rat, len(p.Objective))
	for i, row := range p.Rows {
		if by[i].Sign() == 0 {
			continue
		}
		multiple := func(n api.Number) rational.Rat {
			a, _ := rational.Read(n)
			return rational.Mul(a, by[i])
		}
		for k, n := range row.Coefficients {
			left[k] = rational.Add(left[k], multiple(n))
		}
		right = rational.Add(right, multiple(row.Bound))
	}
	return left, right
}
