package sensitivity

import (
	"dowel/api"
	"dowel/linear"
	"dowel/rational"
	"dowel/stackup"
	"dowel/system"
)

// worstCase is a worst case of a form, as the greatest value of the form with a sign.
type worstCase struct {
	sign      system.Sign
	objective []api.Number
	rows      []api.Row
	value     rational.Rat // of the terms, with the sign
	point     []rational.Rat
	duals     []api.Number
}

// solve returns the worst case of a valid form. Error: ErrInfeasible.
func solve(p stackup.Problem, f api.Form, greatest bool) (*worstCase, api.Errno) {
	sign := system.SignFor(greatest)
	c := &worstCase{sign: sign, objective: system.Coefficients(len(p.Dimensions), f, sign), rows: system.Rows(p.Dimensions, p.Constraints)}
	o, e := linear.Solve(api.Program{Objective: c.objective, Rows: c.rows})
	if e != api.OK {
		return nil, e
	}
	if o.Kind != api.Optimal {
		return nil, api.ErrInfeasible
	}
	c.value, _ = rational.Read(o.Value)
	c.point, _ = rational.Reads(o.Point)
	c.duals = o.Duals
	return c, api.OK
}

// rowOf returns the index of the row of a deviation.
func rowOf(dimension int, upper bool) int {
	if upper {
		return 2 * dimension
	}
	return 2*dimension + 1
}

// price returns the price of a deviation. If there is a proof without its row, the worst case stays as it is.
func (c *worstCase) price(dimension int, upper bool) Price {
	p := Price{Dimension: dimension, Upper: upper, Rate: "0"}
	row := rowOf(dimension, upper)
	if c.duals[row] == "0" {
		return p
	}
	rate := c.rate(row)
	if rate.Sign() != 0 {
		p.Rate, p.Until = c.sign(rate).Number(), c.until(row, rate)
	}
	return p
}

// rate returns the least dual of a row among all those that prove the value.
//
// The duals can be too many variables for one program. So it solves the dual of that one: of the directions in which the point can go if the row gives way, it takes the one in which the value grows fastest. Only rows that hold the point can have a dual that is not 0.
func (c *worstCase) rate(row int) rational.Rat {
	var rows []api.Row
	for i, r := range c.rows {
		if !c.holdsPoint(r) {
			continue
		}
		bound := api.Number("0")
		if i == row {
			bound = "1"
		}
		rows = append(rows, api.Row{Coefficients: r.Coefficients, Bound: bound})
	}
	o, _ := linear.Solve(api.Program{Objective: c.objective, Rows: rows})
	rate, _ := rational.Read(o.Value)
	return rate
}

// holdsPoint reports whether the point lies on the bound of a row.
func (c *worstCase) holdsPoint(r api.Row) bool {
	room, _ := rational.Read(r.Bound)
	for i, n := range r.Coefficients {
		if n != "0" {
			a, _ := rational.Read(n)
			room = rational.Sub(room, rational.Mul(a, c.point[i]))
		}
	}
	return room.Sign() == 0
}

// line is a line above the values for all widenings of a row.
type line struct{ start, rate rational.Rat }

func (l line) at(widening rational.Rat) rational.Rat {
	return rational.Add(l.start, rational.Mul(l.rate, widening))
}

// lineAt returns the line that touches the values at a widening: what proves the value there.
func (c *worstCase) lineAt(row int, widening rational.Rat) line {
	return c.line(row, func(i int) rational.Rat {
		bound, _ := rational.Read(c.rows[i].Bound)
		if i == row {
			bound = rational.Add(bound, widening)
		}
		return bound
	})
}

// lineAtEnd returns the line that touches the values from some widening on: what proves how fast the value grows for ever.
func (c *worstCase) lineAtEnd(row int) line {
	return c.line(row, func(i int) rational.Rat {
		if i == row {
			return rational.From(1)
		}
		return rational.From(0)
	})
}

// line returns the line that proves the value with other bounds of the rows.
func (c *worstCase) line(row int, bound func(i int) rational.Rat) line {
	rows := make([]api.Row, len(c.rows))
	for i, r := range c.rows {
		rows[i] = api.Row{Coefficients: r.Coefficients, Bound: bound(i).Number()}
	}
	o, _ := linear.Solve(api.Program{Objective: c.objective, Rows: rows})
	var l line
	for i, n := range o.Duals {
		dual, _ := rational.Read(n)
		bound, _ := rational.Read(c.rows[i].Bound)
		l.start = rational.Add(l.start, rational.Mul(dual, bound))
		if i == row {
			l.rate = dual
		}
	}
	return l
}

// until returns how far a deviation can be widened so that the value grows with a rate; empty if there is no end.
//
// The end of a line with this rate is not behind where it crosses any other one. If the value there lies below both, its proof is a line that crosses the first one before.
func (c *worstCase) until(row int, rate rational.Rat) api.Number {
	price := line{c.value, rate}
	for l := c.lineAtEnd(row); rational.Compare(l.rate, rate) < 0; {
		widening, _ := rational.Div(rational.Sub(l.start, price.start), rational.Sub(rate, l.rate))
		l = c.lineAt(row, widening)
		if rational.Compare(l.at(widening), price.at(widening)) >= 0 {
			return widening.Number()
		}
	}
	return ""
}

// reach returns how far a deviation has to be widened so that the terms, with the sign, reach a value that is less than the greatest one that they can reach.
//
// Every line reaches the value first, so that the steps never go too far.
func (c *worstCase) reach(row int, value rational.Rat) rational.Rat {
	var widening rational.Rat
	for {
		l := c.lineAt(row, widening)
		if l.rate.Sign() == 0 || rational.Compare(l.at(widening), value) >= 0 {
			return widening
		}
		widening, _ = rational.Div(rational.Sub(value, l.start), l.rate)
	}
}
