package checker

import (
	"slices"

	"dowel/api"
	"dowel/rational"
)

// form is a linear form of dimensions.
type form struct {
	constant rational.Rat
	factors  []rational.Rat
}

func (f form) plus(g form) form {
	sum := form{rational.Add(f.constant, g.constant), make([]rational.Rat, len(f.factors))}
	for i, a := range f.factors {
		sum.factors[i] = rational.Add(a, g.factors[i])
	}
	return sum
}

func (f form) times(k rational.Rat) form {
	multiple := form{rational.Mul(f.constant, k), make([]rational.Rat, len(f.factors))}
	for i, a := range f.factors {
		multiple.factors[i] = rational.Mul(a, k)
	}
	return multiple
}

func (f form) neg() form { return f.times(rational.From(-1)) }

func (f form) at(point []rational.Rat) rational.Rat {
	return rational.Add(f.constant, product(f.factors, point))
}

// row returns the row that a form is at most 0.
func (f form) row() row { return row{f.factors, rational.Neg(f.constant)} }

// readForm returns a form of n dimensions.
func readForm(n int, f api.Form) (form, bool) {
	constant, e := rational.Read(f.Constant)
	made := form{constant, make([]rational.Rat, n)}
	for _, t := range f.Terms {
		factor, e := rational.Read(t.Factor)
		if e != api.OK || t.Dimension < 0 || t.Dimension >= n {
			return form{}, false
		}
		made.factors[t.Dimension] = rational.Add(made.factors[t.Dimension], factor)
	}
	return made, e == api.OK
}

// gap is the question for the greatest value of an expression times a sign.
type gap struct {
	dimensions int
	rows       []row
	expr       api.Expr
	sign       rational.Rat
}

// newGap returns the question for the greatest or the least value.
func newGap(l []api.Dimension, constraints []api.Constraint, x api.Expr, greatest bool) (*gap, bool) {
	n := len(l)
	g := &gap{dimensions: n, expr: x, sign: rational.From(1)}
	if !greatest {
		g.sign = rational.From(-1)
	}
	for i, d := range l {
		upper := form{rational.From(-d.Nominal - d.Upper), make([]rational.Rat, n)}
		lower := form{rational.From(d.Nominal + d.Lower), make([]rational.Rat, n)}
		upper.factors[i], lower.factors[i] = rational.From(1), rational.From(-1)
		g.rows = append(g.rows, upper.row(), lower.row())
	}
	for _, c := range constraints {
		f, ok := readForm(n, c.Form)
		if !ok {
			return nil, false
		}
		g.rows = append(g.rows, f.row())
	}
	return g, true
}

// proves reports whether a worst case is one.
func (g *gap) proves(w api.Worst) bool {
	value, e := rational.Read(w.Value)
	at, ok := reads(w.At)
	if e != api.OK || !ok || len(at) != g.dimensions || !holds(g.rows, at) {
		return false
	}
	if v, ok := g.value(g.expr, at); !ok || rational.Compare(v, value) != 0 {
		return false
	}
	choice := make([]int, len(alternatives(g.expr)))
	for i, c := range w.Cases {
		if !slices.Equal(c.Choice, choice) || !g.provesCase(c, value) {
			return false
		}
		if !advance(choice, alternatives(g.expr)) {
			return i == len(w.Cases)-1
		}
	}
	return false
}

// value returns the value of an expression at a point.
func (g *gap) value(x api.Expr, at []rational.Rat) (rational.Rat, bool) {
	if x.Op == api.OpForm {
		f, ok := readForm(g.dimensions, x.Form)
		if !ok {
			return rational.Rat{}, false
		}
		return f.at(at), true
	}
	var values []rational.Rat
	for _, y := range x.Args {
		v, ok := g.value(y, at)
		if !ok {
			return rational.Rat{}, false
		}
		values = append(values, v)
	}
	if len(values) == 0 {
		return rational.Rat{}, false
	}
	switch x.Op {
	case api.OpAdd:
		return rational.Sum(values...), true
	case api.OpScale:
		factor, e := rational.Read(x.Factor)
		return rational.Mul(factor, values[0]), e == api.OK
	case api.OpMin:
		return slices.MinFunc(values, rational.Compare), true
	case api.OpMax:
		return slices.MaxFunc(values, rational.Compare), true
	case api.OpAbs:
		return rational.Abs(values[0]), true
	}
	return rational.Rat{}, false
}

// alternatives returns for each minimum, maximum and magnitude of an expression, in preorder, how many values a choice has.
func alternatives(x api.Expr) []int {
	var l []int
	switch x.Op {
	case api.OpMin, api.OpMax:
		l = append(l, len(x.Args))
	case api.OpAbs:
		l = append(l, 2)
	}
	for _, y := range x.Args {
		l = append(l, alternatives(y)...)
	}
	return l
}

// advance makes the next choice of one; false if it was the last one.
func advance(choice, sizes []int) bool {
	for i := len(choice) - 1; i >= 0; i-- {
		if choice[i]++; choice[i] < sizes[i] {
			return true
		}
		choice[i] = 0
	}
	return false
}

// resolution resolves an expression by a choice.
type resolution struct {
	dimensions int
	choice     []int
	regions    [][]form // of each alternative
	next       int      // alternative
}

// form returns the form that an expression is where the choice is right.
func (r *resolution) form(x api.Expr) (form, bool) {
	if x.Op == api.OpForm {
		return readForm(r.dimensions, x.Form)
	}
	index := r.next
	if x.Op == api.OpMin || x.Op == api.OpMax || x.Op == api.OpAbs {
		r.next++
	}
	var forms []form
	for _, y := range x.Args {
		f, ok := r.form(y)
		if !ok {
			return form{}, false
		}
		forms = append(forms, f)
	}
	if len(forms) == 0 {
		return form{}, false
	}
	switch x.Op {
	case api.OpAdd:
		sum := forms[0]
		for _, f := range forms[1:] {
			sum = sum.plus(f)
		}
		return sum, true
	case api.OpScale:
		factor, e := rational.Read(x.Factor)
		return forms[0].times(factor), e == api.OK
	case api.OpMin, api.OpMax:
		return r.choose(index, forms, x.Op == api.OpMin)
	case api.OpAbs:
		return r.chooseSign(index, forms[0])
	}
	return form{}, false
}

// chooseSign returns a form or its negative, as chosen, and notes that the other one is not positive.
func (r *resolution) chooseSign(index int, f form) (form, bool) {
	chosen, other := f, f.neg()
	if r.choice[index] == 1 {
		chosen, other = other, chosen
	}
	r.regions[index] = []form{other}
	return chosen, true
}

// choose returns the chosen one of some forms, and notes that it is the least or the greatest one.
func (r *resolution) choose(index int, forms []form, isLeast bool) (form, bool) {
	at := r.choice[index]
	if at >= len(forms) {
		return form{}, false
	}
	chosen := forms[at]
	for i, f := range forms {
		if i == at {
			continue
		}
		difference := chosen.plus(f.neg())
		if !isLeast {
			difference = difference.neg()
		}
		r.regions[index] = append(r.regions[index], difference)
	}
	return chosen, true
}

// provesCase reports whether a case proves that no value in its region is greater than a value, with the sign.
func (g *gap) provesCase(c api.Case, value rational.Rat) bool {
	by, ok := reads(c.Duals)
	if !ok {
		return false
	}
	r := &resolution{dimensions: g.dimensions, choice: c.Choice, regions: make([][]form, len(c.Choice))}
	f, ok := r.form(g.expr)
	if !ok {
		return false
	}
	rows := slices.Clone(g.rows)
	for _, region := range slices.Concat(r.regions...) {
		rows = append(rows, region.row())
	}
	sum, ok := combine(g.dimensions, rows, by)
	if !ok {
		return false
	}
	goal := f.times(g.sign)
	most := rational.Sub(rational.Mul(value, g.sign), goal.constant)
	return sum.isContradiction() || areEqual(sum.left, goal.factors) && rational.Compare(sum.right, most) <= 0
}
