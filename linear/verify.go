package linear

import (
	"dowel/api"
	"dowel/rational"
)

// Verify returns OK if an outcome proves what it says.
func Verify(p api.Program, o api.Outcome) api.Errno {
	q, e := read(p)
	if e != api.OK {
		return e
	}
	if o.Kind != api.Optimal && o.Kind != api.Infeasible && o.Kind != api.Unbounded {
		return api.ErrKind
	}
	if !hasSizes(q, o) {
		return api.ErrSize
	}
	x, e := readOutcome(o)
	if e != api.OK {
		return e
	}
	if !q.proves(x) {
		return api.ErrCertificate
	}
	return api.OK
}

// hasSizes reports whether the lists of an outcome are as long as its kind demands, and whether the fields that must be empty are.
func hasSizes(p program, o api.Outcome) bool {
	variables, rows := len(p.objective), len(p.rows)
	switch o.Kind {
	case api.Optimal:
		return len(o.Point) == variables && len(o.Duals) == rows && len(o.Ray) == 0
	case api.Infeasible:
		return o.Value == "" && len(o.Point) == 0 && len(o.Duals) == rows && len(o.Ray) == 0
	}
	return o.Value == "" && len(o.Point) == variables && len(o.Duals) == 0 && len(o.Ray) == variables
}

// readOutcome reads the numbers of an outcome.
func readOutcome(o api.Outcome) (x outcome, e api.Errno) {
	x.kind = o.Kind
	if o.Kind == api.Optimal {
		x.value, e = rational.Read(o.Value)
		if e != api.OK {
			return outcome{}, e
		}
	}
	for _, field := range []struct {
		to   *[]rational.Rat
		from []api.Number
	}{{&x.point, o.Point}, {&x.duals, o.Duals}, {&x.ray, o.Ray}} {
		*field.to, e = rational.Reads(field.from)
		if e != api.OK {
			return outcome{}, e
		}
	}
	return x, api.OK
}

// proves reports whether an outcome proves what it says.
func (p program) proves(o outcome) bool {
	switch o.kind {
	case api.Optimal:
		r, ok := p.combination(o.duals)
		return ok && p.holds(o.point) && equal(r.coefficients, p.objective) && rational.Compare(r.bound, o.value) == 0 && rational.Compare(dot(p.objective, o.point), o.value) == 0
	case api.Infeasible:
		r, ok := p.combination(o.duals)
		return ok && equal(r.coefficients, make([]rational.Rat, len(p.objective))) && r.bound.Sign() < 0
	}
	for _, r := range p.rows {
		if dot(r.coefficients, o.ray).Sign() > 0 {
			return false
		}
	}
	return p.holds(o.point) && dot(p.objective, o.ray).Sign() > 0
}

// combination returns the combination of the rows with multipliers; false if one of these is negative.
func (p program) combination(duals []rational.Rat) (row, bool) {
	sum := row{coefficients: make([]rational.Rat, len(p.objective))}
	for i, r := range p.rows {
		if duals[i].Sign() < 0 {
			return row{}, false
		}
		if duals[i].Sign() == 0 {
			continue
		}
		for k, a := range r.coefficients {
			sum.coefficients[k] = rational.Add(sum.coefficients[k], rational.Mul(duals[i], a))
		}
		sum.bound = rational.Add(sum.bound, rational.Mul(duals[i], r.bound))
	}
	return sum, true
}

func equal(a, b []rational.Rat) bool {
	for i := range a {
		if rational.Compare(a[i], b[i]) != 0 {
			return false
		}
	}
	return true
}
