package linear

import (
	"dowel/integer"
	"dowel/rational"
)

// tableau expresses some variables (basic) by others (free columns), which are 0: the last number of each row is the value of its variable. The variables are those of the program, and then the slacks of its rows, which must not be negative.
//
// All numbers are integers, with one common denominator. A step multiplies them by its pivot, and divides them by the denominator before, which is always possible, as they are determinants of the rows.
type tableau struct {
	rows        [][]integer.Int // one for each basic variable, then those of the goals
	basic       []int
	columns     []int
	variables   int
	denominator integer.Int
	factors     []integer.Int // by which the rows were multiplied, so that they have integers; then that of the objective
}

// newTableau returns the tableau in which the slacks are basic.
func newTableau(p program) *tableau {
	t := &tableau{variables: len(p.objective), denominator: integer.From(1)}
	for j := range p.objective {
		t.columns = append(t.columns, j)
	}
	for i, r := range p.rows {
		t.basic = append(t.basic, t.variables+i)
		t.add(append(each(r.coefficients, rational.Neg), r.bound))
	}
	t.add(append(each(p.objective, func(a rational.Rat) rational.Rat { return a }), rational.Rat{}))
	return t
}

// add adds a row of integers, a multiple of the given one.
func (t *tableau) add(l []rational.Rat) {
	factor := integer.From(1)
	for _, a := range l {
		divisor := integer.Gcd(factor, a.Den())
		factor = integer.Mul(factor, quotient(a.Den(), divisor))
	}
	numbers := make([]integer.Int, len(l))
	for i, a := range l {
		numbers[i] = integer.Mul(a.Num(), quotient(factor, a.Den()))
	}
	t.rows = append(t.rows, numbers)
	t.factors = append(t.factors, factor)
}

// quotient divides by an integer that is not 0.
func quotient(a, b integer.Int) integer.Int {
	if n, ok := b.Int(); ok && n == 1 {
		return a
	}
	q, _, _ := integer.DivMod(a, b)
	return q
}

// goal returns the row of the objective.
func (t *tableau) goal() []integer.Int { return t.rows[len(t.basic)] }

func (t *tableau) isSlack(variable int) bool { return variable >= t.variables }

// value returns the value of the row's variable, multiplied by the denominator.
func (t *tableau) value(r int) integer.Int { return t.rows[r][len(t.columns)] }

// exchange makes the variable of a column basic, in place of that of a row.
func (t *tableau) exchange(r, s int) {
	by := t.rows[r]
	pivot, before := by[s], t.denominator
	isNegative := pivot.Sign() < 0
	if isNegative {
		pivot = integer.Neg(pivot)
	}
	for i, row := range t.rows {
		if i == r {
			continue
		}
		factor := row[s]
		if isNegative {
			factor = integer.Neg(factor)
		}
		replace(row, by, pivot, factor, before)
		row[s] = factor
	}
	for j := range by {
		if !isNegative {
			by[j] = integer.Neg(by[j])
		}
	}
	by[s] = before
	if isNegative {
		by[s] = integer.Neg(before)
	}
	t.denominator = pivot
	t.basic[r], t.columns[s] = t.columns[s], t.basic[r]
}

// replace takes a multiple of another row away from a row, so that its denominator is the pivot.
func replace(row, by []integer.Int, pivot, factor, before integer.Int) {
	if factor.Sign() == 0 && integer.Compare(pivot, before) == 0 {
		return
	}
	for j, a := range row {
		b := by[j]
		switch {
		case factor.Sign() == 0 || b.Sign() == 0:
			if a.Sign() != 0 {
				row[j] = quotient(integer.Mul(a, pivot), before)
			}
		default:
			row[j] = quotient(integer.Sub(integer.Mul(a, pivot), integer.Mul(factor, b)), before)
		}
	}
}

// freeVariables makes the variables of the program basic, as far as a slack depends on them, by the shortest rows that are possible. (The others can have any value without a change of any row.) Of rows as short as one another, one is taken whose slack would make the objective less.
func (t *tableau) freeVariables() {
	lengths := make([]int, len(t.basic))
	for i := range lengths {
		for _, a := range t.rows[i][:t.variables] {
			if a.Sign() != 0 {
				lengths[i] += 2
			}
		}
	}
	for s := range t.columns {
		best, least := -1, 0
		for i := range t.basic {
			sign := t.rows[i][s].Sign()
			if !t.isSlack(t.basic[i]) || sign == 0 {
				continue
			}
			length := lengths[i]
			if sign*t.goal()[s].Sign() > 0 {
				length++
			}
			if best < 0 || length < least {
				best, least = i, length
			}
		}
		if best >= 0 {
			t.exchange(best, s)
		}
	}
}

// isLess reports whether a / b is less than c / d, for positive b and d.
func isLess(a, b, c, d integer.Int) bool {
	return integer.Compare(integer.Mul(a, d), integer.Mul(c, b)) < 0
}
