package clearance

import (
	"dowel/api"
	"dowel/linear"
	"dowel/rational"
	"dowel/vector"
)

// nearest is a pair of nearest points of the hulls of two lists of points, and, if they are not the same point, a normal whose magnitudes add up to 1, along which both lists are as far apart.
type nearest struct {
	distance rational.Rat
	a, b     vector.Vec
	normal   vector.Vec
}

// between returns the nearest points by a linear program. Its variables are the multipliers of the points of both lists, and a bound of the coordinates of the difference, which is to be as small as possible.
func between(a, b []vector.Vec) (nearest, api.Errno) {
	n := len(a) + len(b)
	unit := func(at int, value int) []rational.Rat {
		l := make([]rational.Rat, n+1)
		l[at] = rational.From(value)
		return l
	}
	p := api.Program{Objective: rational.Numbers(unit(n, -1))}
	for i := range n {
		p.Rows = append(p.Rows, api.Row{Coefficients: rational.Numbers(unit(i, -1)), Bound: "0"})
	}
	for _, part := range [][2]int{{0, len(a)}, {len(a), n}} {
		sum := make([]rational.Rat, n+1)
		for i := part[0]; i < part[1]; i++ {
			sum[i] = rational.From(1)
		}
		rows, e := linear.Equation(rational.Numbers(sum), "1")
		if e != api.OK {
			return nearest{}, e
		}
		p.Rows = append(p.Rows, rows...)
	}
	for i := range 3 {
		for _, sign := range []int{1, -1} {
			p.Rows = append(p.Rows, api.Row{Coefficients: rational.Numbers(difference(a, b, i, sign)), Bound: "0"})
		}
	}
	o, e := linear.Solve(p)
	if e != api.OK {
		return nearest{}, e
	}
	return answer(a, b, o)
}

// difference returns the coefficients by which a coordinate of the difference of two points, or its negative, is compared with the bound.
func difference(a, b []vector.Vec, coordinate, sign int) []rational.Rat {
	var l []rational.Rat
	for _, v := range a {
		l = append(l, rational.Mul(rational.From(sign), v[coordinate]))
	}
	for _, v := range b {
		l = append(l, rational.Mul(rational.From(-sign), v[coordinate]))
	}
	return append(l, rational.From(-1))
}

// answer returns what the outcome of the program says: its point the points, its last duals the normal. (If the distance is not 0, a coordinate cannot be at the bound with both signs.)
func answer(a, b []vector.Vec, o api.Outcome) (nearest, api.Errno) {
	x, e := rational.Reads(o.Point)
	if e != api.OK {
		return nearest{}, e
	}
	duals, e := rational.Reads(o.Duals)
	if e != api.OK || o.Kind != api.Optimal {
		return nearest{}, api.ErrCertificate
	}
	r := nearest{distance: x[len(x)-1], a: combination(a, x), b: combination(b, x[len(a):])}
	duals = duals[len(duals)-6:]
	for i := range r.normal {
		r.normal[i] = rational.Sub(duals[2*i+1], duals[2*i])
	}
	return r, api.OK
}

// combination returns the sum of multiples of points.
func combination(l []vector.Vec, multipliers []rational.Rat) vector.Vec {
	var sum vector.Vec
	for i, v := range l {
		sum = vector.Add(sum, vector.Scale(v, multipliers[i]))
	}
	return sum
}
