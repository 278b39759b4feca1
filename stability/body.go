package stability

import (
	"slices"

	"dowel/api"
	"dowel/assembly"
	"dowel/cone"
	"dowel/contact"
	"dowel/linear"
	"dowel/rational"
	"dowel/solid"
	"dowel/twist"
	"dowel/vector"
)

// body is the free instances of a situation as one body: the wrenches of the forces on it, of the size 1, its mass, and its centre of mass times its mass.
type body struct {
	wrenches []twist.Wrench
	mass     rational.Rat
	moment   vector.Vec
}

// bodyOf returns the body of a valid situation.
func bodyOf(s Situation) (body, api.Errno) {
	contacts, e := contact.Of(s.Assembly)
	if e != api.OK {
		return body{}, e
	}
	solids, e := assembly.Place(s.Assembly)
	if e != api.OK {
		return body{}, e
	}
	free := s.free()
	var b body
	for _, i := range contact.Select(contacts, free, s.Held) {
		c := contacts[i]
		if !contact.IsProper(c) {
			continue
		}
		push, _ := vector.Read(c.Normals[0])
		if slices.Contains(free, c.A) {
			push = vector.Neg(push)
		}
		for _, p := range c.Points {
			at, _ := vector.Read(p)
			b.wrenches = append(b.wrenches, twist.Force(at, push))
		}
	}
	for _, i := range free {
		mass := solid.Mass(solids[i])
		b.mass = rational.Add(b.mass, mass)
		b.moment = vector.Add(b.moment, vector.Scale(solid.Centre(solids[i]), mass))
	}
	return b, api.OK
}

// weight returns the sum of the weights under some gravity.
func (b body) weight(gravity vector.Vec) twist.Wrench {
	return twist.Wrench{Moment: vector.Cross(b.moment, gravity), Force: vector.Scale(gravity, b.mass)}
}

// numbers returns the six numbers of a wrench.
func numbers(w twist.Wrench) []rational.Rat { return slices.Concat(w.Moment[:], w.Force[:]) }

// Body reports whether the body of a situation stands.
func Body(s Situation) (bool, api.Errno) {
	if e := Check(s); e != api.OK {
		return false, e
	}
	if len(s.free()) == 0 {
		return true, api.OK
	}
	b, e := bodyOf(s)
	if e != api.OK {
		return false, e
	}
	gravity, e := vector.Parse(s.Gravity)
	if e != api.OK {
		return false, e
	}
	// If no motion that the contacts permit does work, some sizes balance the weight.
	p := api.Program{Objective: rational.Numbers(numbers(b.weight(gravity)))}
	for _, w := range b.wrenches {
		var row []rational.Rat
		for _, x := range numbers(w) {
			row = append(row, rational.Neg(x))
		}
		p.Rows = append(p.Rows, api.Row{Coefficients: rational.Numbers(row), Bound: "0"})
	}
	o, e := linear.Solve(p)
	return o.Kind == api.Optimal, e
}

// Gravities returns the cone of gravities of a situation.
func Gravities(s Situation) (cone.Cone, api.Errno) {
	if e := Check(s); e != api.OK {
		return cone.Cone{}, e
	}
	if len(s.free()) == 0 {
		return cone.FromRows(3, nil)
	}
	b, e := bodyOf(s)
	if e != api.OK {
		return cone.Cone{}, e
	}
	var rays [][]api.Number
	for _, w := range b.wrenches {
		rays = append(rays, rational.Numbers(numbers(w)))
	}
	forces, e := cone.Generate(6, nil, rays)
	if e != api.OK {
		return cone.Cone{}, e
	}
	// The forces balance a weight if no row of their dual has a negative product with it.
	rows, e := cone.Dual(forces)
	if e != api.OK {
		return cone.Cone{}, e
	}
	dual, e := cone.Generate(3, b.demands(rows.Lines), b.demands(rows.Rays))
	if e != api.OK {
		return cone.Cone{}, e
	}
	return cone.Dual(dual)
}

// demands returns for each row on wrenches the row that it is on gravity: the negative product with the weight.
func (b body) demands(rows [][]api.Number) [][]api.Number {
	var l [][]api.Number
	for _, row := range rows {
		t, _ := twist.Parse(api.Twist(row))
		var demand vector.Vec
		for i := range demand {
			var gravity vector.Vec
			gravity[i] = rational.From(-1)
			demand[i] = twist.Power(t, b.weight(gravity))
		}
		p := demand.Point()
		l = append(l, p[:])
	}
	return l
}
