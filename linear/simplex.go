package linear

import (
	"slices"

	"dowel/api"
	"dowel/integer"
	"dowel/rational"
)

// solve returns the outcome of a program: first all slacks are made not negative, then the objective is made as great as it can be.
func solve(p program) outcome {
	t := newTableau(p)
	t.freeVariables()
	if r := t.makeFeasible(); r >= 0 {
		return outcome{kind: api.Infeasible, duals: t.multipliers(t.rows[r], t.basic[r], integer.From(1))}
	}
	for s, variable := range t.columns {
		if !t.isSlack(variable) && t.goal()[s].Sign() != 0 {
			return t.unbounded(s, t.goal()[s].Sign())
		}
	}
	if s := t.makeGreatest(); s >= 0 {
		return t.unbounded(s, 1)
	}
	last := len(t.basic)
	value, _ := rational.Make(t.goal()[len(t.columns)], integer.Mul(t.denominator, t.factors[last]))
	return outcome{kind: api.Optimal, value: value, point: t.point(), duals: t.multipliers(t.goal(), -1, t.factors[last])}
}

// makeFeasible makes exchanges until no slack is negative, and returns -1; or a row by which one is always negative.
//
// Goals are kept greatest meanwhile: an exchange takes the column by which they become less as slowly as possible. The last one is the negative sum of the variables of the first columns; the objective comes before it, if it is at its greatest for these columns.
func (t *tableau) makeFeasible() int {
	sum := make([]integer.Int, len(t.columns)+1)
	for s, variable := range t.columns {
		if t.isSlack(variable) {
			sum[s] = integer.Neg(t.denominator)
		}
	}
	goals := [][]integer.Int{sum}
	if t.promising(false) < 0 {
		goals = [][]integer.Int{t.goal(), sum}
	}
	t.rows = append(t.rows, sum)
	defer func() { t.rows = t.rows[:len(t.rows)-1] }()
	for takesLeast := false; ; {
		r := t.negative(takesLeast)
		if r < 0 {
			return -1
		}
		s := t.columnFor(r, goals)
		if s < 0 {
			return r
		}
		takesLeast = !slices.ContainsFunc(goals, func(goal []integer.Int) bool { return goal[s].Sign() != 0 })
		t.exchange(r, s)
	}
}

// negative returns the row of a negative slack, or -1: the most negative one, or the one with the least index.
func (t *tableau) negative(takesLeast bool) int {
	best := -1
	for i, variable := range t.basic {
		if !t.isSlack(variable) || t.value(i).Sign() >= 0 {
			continue
		}
		if best < 0 || takesLeast && variable < t.basic[best] || !takesLeast && integer.Compare(t.value(i), t.value(best)) < 0 {
			best = i
		}
	}
	return best
}

// columnFor returns the column whose variable makes that of a row greater, at the least expense of the first of some goals for which columns differ, or -1; of several ones that with the least index.
func (t *tableau) columnFor(r int, goals [][]integer.Int) int {
	best := -1
	for s, variable := range t.columns {
		if !t.isSlack(variable) || t.rows[r][s].Sign() <= 0 {
			continue
		}
		if best < 0 || t.isCheaper(r, s, best, goals) {
			best = s
		}
	}
	return best
}

// isCheaper reports whether the variable of a column makes that of a row greater at less expense than that of another column.
func (t *tableau) isCheaper(r, s, than int, goals [][]integer.Int) bool {
	for _, goal := range goals {
		// The goals fall, so that their numbers are not positive.
		a, b := integer.Mul(goal[s], t.rows[r][than]), integer.Mul(goal[than], t.rows[r][s])
		if c := integer.Compare(a, b); c != 0 {
			return c > 0
		}
	}
	return t.columns[s] < t.columns[than]
}

// isBetter reports whether a / b is less than c / d, or equal to it, while the index i is less than k.
func isBetter(a, b integer.Int, i int, c, d integer.Int, k int) bool {
	return isLess(a, b, c, d) || i < k && !isLess(c, d, a, b)
}

// makeGreatest makes exchanges until no variable of a column can make the objective greater, and returns -1; or a column whose variable can become as great as one likes.
//
// An exchange that changes no value is followed by those that take the least index of all possible ones, until one changes a value again: so they never repeat themselves.
func (t *tableau) makeGreatest() int {
	for takesLeast := false; ; {
		s := t.promising(takesLeast)
		if s < 0 {
			return -1
		}
		r := t.rowFor(s)
		if r < 0 {
			return s
		}
		takesLeast = t.value(r).Sign() == 0
		t.exchange(r, s)
	}
}

// promising returns a column whose variable makes the objective greater, or -1: the one with the greatest number, or with the least index.
func (t *tableau) promising(takesLeast bool) int {
	best := -1
	for s, variable := range t.columns {
		if !t.isSlack(variable) || t.goal()[s].Sign() <= 0 {
			continue
		}
		if best < 0 || takesLeast && variable < t.columns[best] || !takesLeast && integer.Compare(t.goal()[s], t.goal()[best]) > 0 {
			best = s
		}
	}
	return best
}

// rowFor returns the row of the slack that is 0 first, if the variable of a column grows, or -1; of several ones that with the least index.
func (t *tableau) rowFor(s int) int {
	best := -1
	for i, variable := range t.basic {
		if !t.isSlack(variable) || t.rows[i][s].Sign() >= 0 {
			continue
		}
		if best < 0 || isBetter(t.value(i), integer.Neg(t.rows[i][s]), variable, t.value(best), integer.Neg(t.rows[best][s]), t.basic[best]) {
			best = i
		}
	}
	return best
}

// point returns the values of the variables of the program.
func (t *tableau) point() []rational.Rat {
	x := make([]rational.Rat, t.variables)
	for i, variable := range t.basic {
		if !t.isSlack(variable) {
			x[variable], _ = rational.Make(t.value(i), t.denominator)
		}
	}
	return x
}

// unbounded returns the outcome in which the variable of a column grows without a limit, in the direction of a sign.
func (t *tableau) unbounded(s, sign int) outcome {
	ray := make([]rational.Rat, t.variables)
	direction := integer.Mul(integer.From(sign), t.denominator)
	for i, variable := range t.basic {
		if !t.isSlack(variable) {
			ray[variable], _ = rational.Make(t.rows[i][s], direction)
		}
	}
	if !t.isSlack(t.columns[s]) {
		ray[t.columns[s]] = rational.From(sign)
	}
	return outcome{kind: api.Unbounded, point: t.point(), ray: ray}
}

// multipliers returns those of the rows of the program by which a row of the tableau, divided by a factor, is proved; own is its variable, or -1.
func (t *tableau) multipliers(l []integer.Int, own int, factor integer.Int) []rational.Rat {
	duals := make([]rational.Rat, len(t.basic))
	under := integer.Mul(t.denominator, factor)
	for s, variable := range t.columns {
		if t.isSlack(variable) {
			i := variable - t.variables
			duals[i], _ = rational.Make(integer.Mul(integer.Neg(l[s]), t.factors[i]), under)
		}
	}
	if own >= 0 {
		duals[own-t.variables], _ = rational.Make(t.factors[own-t.variables], factor)
	}
	return duals
}
