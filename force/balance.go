package force

import (
	"iter"
	"slices"

	"dowel/api"
	"dowel/assembly"
	"dowel/contact"
	"dowel/linear"
	"dowel/rational"
	"dowel/solid"
	"dowel/twist"
	"dowel/vector"
)

// share is the wrench of a force of the size 1 on a free instance, by its place among these.
type share struct {
	free   int
	wrench twist.Wrench
}

// push is a force with its wrenches on free instances: one or two.
type push struct {
	force  api.Force
	shares []share
}

// balance is a valid system: its forces, and the weights of its free instances.
type balance struct {
	pushes  []push
	weights []twist.Wrench
}

// open returns a valid system, or the error of Check.
func open(s System) (*balance, api.Errno) {
	contacts, e := contact.Of(s.Assembly)
	if e != api.OK {
		return nil, e
	}
	if e := checkLists(s); e != api.OK {
		return nil, e
	}
	if len(s.Supports) > MaxSupports {
		return nil, api.ErrLimit
	}
	b := &balance{}
	for i, c := range contacts {
		b.addContact(s, i, c)
	}
	for i, x := range s.Supports {
		if e := b.addSupport(s, i, x); e != api.OK {
			return nil, e
		}
	}
	gravity, e := vector.Parse(s.Gravity)
	if e != api.OK {
		return nil, e
	}
	if len(b.pushes) > api.MaxVariables || len(b.pushes)+12*len(s.Free) > api.MaxRows {
		return nil, api.ErrLimit
	}
	return b, b.weigh(s, gravity)
}

// checkLists returns the errors of the free and the held instances.
func checkLists(s System) api.Errno {
	if len(s.Free) == 0 {
		return api.ErrEmpty
	}
	for _, l := range [][]int{s.Free, s.Held} {
		for i, k := range l {
			if k < 0 || k >= len(s.Assembly.Instances) {
				return api.ErrRange
			}
			if i > 0 && l[i-1] >= k {
				return api.ErrOrder
			}
		}
	}
	if slices.ContainsFunc(s.Held, func(i int) bool { return slices.Contains(s.Free, i) }) {
		return api.ErrConflict
	}
	return api.OK
}

// addContact adds the forces of a contact, if it is proper, and lies between two free instances, or a free and a held one.
func (b *balance) addContact(s System, index int, c api.Contact) {
	freeA, freeB := slices.Index(s.Free, c.A), slices.Index(s.Free, c.B)
	isThere := func(free, i int) bool { return free >= 0 || slices.Contains(s.Held, i) }
	if !contact.IsProper(c) || freeA < 0 && freeB < 0 || !isThere(freeA, c.A) || !isThere(freeB, c.B) {
		return
	}
	normal, _ := vector.Read(c.Normals[0])
	for _, p := range c.Points {
		at, _ := vector.Read(p)
		x := push{force: api.Force{Contact: index, Point: p, Normal: c.Normals[0], Size: "1"}}
		add := func(free, sign int) {
			if free >= 0 {
				x.shares = append(x.shares, share{free, twist.Force(at, vector.Scale(normal, rational.From(sign)))})
			}
		}
		add(freeA, -1)
		add(freeB, 1)
		b.pushes = append(b.pushes, x)
	}
}

// addSupport adds the force of a support.
func (b *balance) addSupport(s System, index int, x Support) api.Errno {
	free := slices.Index(s.Free, x.Instance)
	if free < 0 {
		return api.ErrNotFound
	}
	at, e := vector.Parse(x.Point)
	if e != api.OK {
		return e
	}
	normal, e := vector.Parse(x.Normal)
	if e != api.OK {
		return e
	}
	if vector.IsZero(normal) {
		return api.ErrZero
	}
	force := api.Force{Contact: -1 - index, Point: x.Point, Normal: x.Normal, Size: "1"}
	b.pushes = append(b.pushes, push{force, []share{{free, twist.Force(at, vector.Neg(normal))}}})
	return api.OK
}

// weigh finds the weights of the free instances.
func (b *balance) weigh(s System, gravity vector.Vec) api.Errno {
	solids, e := assembly.Place(s.Assembly)
	if e != api.OK {
		return e
	}
	for _, i := range s.Free {
		x := solids[i]
		b.weights = append(b.weights, twist.Force(solid.Centre(x), vector.Scale(gravity, solid.Mass(x))))
	}
	return api.OK
}

// numbersOf returns the six numbers of a wrench.
func numbersOf(w twist.Wrench) []rational.Rat {
	return slices.Concat(w.Moment[:], w.Force[:])
}

// columns yields, for each force, the numbers by which it stands in the equations: six for each free instance.
func (b *balance) columns() iter.Seq2[int, []rational.Rat] {
	return func(yield func(int, []rational.Rat) bool) {
		for i, p := range b.pushes {
			column := make([]rational.Rat, 6*len(b.weights))
			for _, s := range p.shares {
				copy(column[6*s.free:], numbersOf(s.wrench))
			}
			if !yield(i, column) {
				return
			}
		}
	}
}

// program returns the linear program whose points are the sizes that balance the system, with the objective 0: a row for each size, which is not negative, and then two rows for each equation.
func (b *balance) program() api.Program {
	n := len(b.pushes)
	p := api.Program{Objective: rational.Numbers(make([]rational.Rat, n))}
	equations := make([][]rational.Rat, 6*len(b.weights))
	for i := range equations {
		equations[i] = make([]rational.Rat, n)
	}
	for i, column := range b.columns() {
		row := make([]rational.Rat, n)
		row[i] = rational.From(-1)
		p.Rows = append(p.Rows, api.Row{Coefficients: rational.Numbers(row), Bound: "0"})
		for k, x := range column {
			equations[k][i] = x
		}
	}
	for i, l := range equations {
		weight := numbersOf(b.weights[i/6])[i%6]
		rows, _ := linear.Equation(rational.Numbers(l), rational.Neg(weight).Number())
		p.Rows = append(p.Rows, rows...)
	}
	return p
}

// motion returns the twists that the multipliers of a program that is infeasible are: those of the two rows of each equation, subtracted.
func (b *balance) motion(duals []api.Number) ([]api.Twist, api.Errno) {
	l, e := rational.Reads(duals)
	if e != api.OK {
		return nil, e
	}
	l = l[len(b.pushes):]
	motion := make([]api.Twist, len(b.weights))
	for i := range 6 * len(b.weights) {
		motion[i/6][i%6] = rational.Sub(l[2*i], l[2*i+1]).Number()
	}
	return motion, api.OK
}

// resultant returns for each free instance the sum of the wrenches of forces of some sizes.
func (b *balance) resultant(sizes []rational.Rat) []twist.Wrench {
	sums := make([]twist.Wrench, len(b.weights))
	for i, p := range b.pushes {
		for _, s := range p.shares {
			w := twist.Wrench{Moment: vector.Scale(s.wrench.Moment, sizes[i]), Force: vector.Scale(s.wrench.Force, sizes[i])}
			sums[s.free] = twist.Sum(sums[s.free], w)
		}
	}
	return sums
}

// balances reports whether sizes balance the system.
func (b *balance) balances(sizes []rational.Rat) bool {
	if slices.ContainsFunc(sizes, func(x rational.Rat) bool { return x.Sign() < 0 }) {
		return false
	}
	for i, w := range b.resultant(sizes) {
		sum := twist.Sum(w, b.weights[i])
		if !vector.IsZero(sum.Moment) || !vector.IsZero(sum.Force) {
			return false
		}
	}
	return true
}

// power returns the power of a force of the size 1 in a motion.
func (p push) power(motion []twist.Twist) rational.Rat {
	var sum rational.Rat
	for _, s := range p.shares {
		sum = rational.Add(sum, twist.Power(motion[s.free], s.wrench))
	}
	return sum
}

// falls reports whether a motion is permitted and does work.
func (b *balance) falls(motion []twist.Twist) bool {
	if slices.ContainsFunc(b.pushes, func(p push) bool { return p.power(motion).Sign() < 0 }) {
		return false
	}
	var work rational.Rat
	for i, w := range b.weights {
		work = rational.Add(work, twist.Power(motion[i], w))
	}
	return work.Sign() > 0
}
