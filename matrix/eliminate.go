package matrix

import (
	"dowel/integer"
	"dowel/rational"
)

// echelon is a matrix in elimination. Its rows are integers: a step multiplies them by its pivot and divides them by that of the step before, which is always possible. So no fractions have to be reduced, and numbers remain as short as determinants of the matrix are.
type echelon struct {
	rows   [][]integer.Int
	pivots []int
	last   integer.Int // the pivot of all rows that have one
	odd    bool        // an odd number of exchanges of rows
}

// integers returns the multiple of a row that consists of integers, and its factor.
func integers(row []rational.Rat) (l []integer.Int, factor integer.Int) {
	factor = integer.From(1)
	for _, x := range row {
		factor = multiple(factor, x.Den())
	}
	l = make([]integer.Int, len(row))
	for i, x := range row {
		l[i] = integer.Mul(x.Num(), quotient(factor, x.Den()))
	}
	return l, factor
}

// multiple returns the least common multiple of two positive integers.
func multiple(a, b integer.Int) integer.Int {
	return integer.Mul(a, quotient(b, integer.Gcd(a, b)))
}

// quotient divides by an integer that is not 0.
func quotient(a, b integer.Int) integer.Int {
	q, _, _ := integer.DivMod(a, b)
	return q
}

// eliminate brings a matrix with so many columns to a reduced form in which all pivots are the same integer.
func eliminate(m Matrix, columns int) echelon {
	x := echelon{last: integer.From(1)}
	for _, row := range m {
		l, _ := integers(row)
		x.rows = append(x.rows, l)
	}
	for column := range columns {
		x.step(column)
	}
	return x
}

// step makes a column that of the next pivot, if it can be.
func (x *echelon) step(column int) {
	at := len(x.pivots)
	for at < len(x.rows) && x.rows[at][column].Sign() == 0 {
		at++
	}
	if at == len(x.rows) {
		return
	}
	if next := len(x.pivots); at != next {
		x.rows[at], x.rows[next] = x.rows[next], x.rows[at]
		at, x.odd = next, !x.odd
	}
	by := x.rows[at]
	pivot := by[column]
	for i, row := range x.rows {
		if i == at {
			continue
		}
		factor := row[column]
		change(row, by, func(a, b integer.Int) integer.Int {
			return quotient(integer.Sub(integer.Mul(a, pivot), integer.Mul(b, factor)), x.last)
		})
	}
	x.last = pivot
	x.pivots = append(x.pivots, column)
}

// change replaces each number of a row by what is made of it and of that of another row.
func change(row, other []integer.Int, f func(a, b integer.Int) integer.Int) {
	for i := range row {
		if row[i].Sign() != 0 || other[i].Sign() != 0 {
			row[i] = f(row[i], other[i])
		}
	}
}

// reduce returns the reduced echelon form of a matrix with so many columns, and the columns of its pivots.
func reduce(m Matrix, columns int) (Matrix, []int) {
	x := eliminate(m, columns)
	r := zeros(len(x.pivots), columns)
	for i := range r {
		for k, n := range x.rows[i][:columns] {
			r[i][k], _ = rational.Make(n, x.last)
		}
	}
	return r, x.pivots
}

// determinant returns that of a matrix with as many rows as columns.
func determinant(m Matrix) rational.Rat {
	x := eliminate(m, len(m))
	if len(x.pivots) < len(m) {
		return rational.Rat{}
	}
	under := integer.From(1)
	for _, row := range m {
		_, factor := integers(row)
		under = integer.Mul(under, factor)
	}
	if x.odd {
		under = integer.Neg(under)
	}
	d, _ := rational.Make(x.last, under)
	return d
}
