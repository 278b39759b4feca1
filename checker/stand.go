package checker

import (
	"slices"

	"dowel/api"
	"dowel/rational"
)

// pair6 is the moment and the force of a wrench, or the angular and the linear velocity of a twist.
type pair6 struct{ first, second vec }

func readPair6(l [6]api.Number) (pair6, bool) {
	first, isFirst := readVec(api.Point(l[:3]))
	second, isSecond := readVec(api.Point(l[3:]))
	return pair6{first, second}, isFirst && isSecond
}

func (p pair6) plus(q pair6) pair6 { return pair6{p.first.plus(q.first), p.second.plus(q.second)} }

func (p pair6) times(k rational.Rat) pair6 { return pair6{p.first.times(k), p.second.times(k)} }

func (p pair6) isZero() bool { return p.first.isZero() && p.second.isZero() }

// power returns the power of a wrench under a twist.
func (p pair6) power(t pair6) rational.Rat {
	return rational.Add(p.first.dot(t.first), p.second.dot(t.second))
}

// push is a wrench of a force on one of some bodies.
type push struct {
	body   int
	wrench pair6
}

// system is the pushes of forces of the size 1, and the weights of bodies.
type system struct {
	pushes  [][]push // of each force
	weights []pair6
}

// readSystem returns a system, if all of its numbers and sides are right.
func readSystem(forces []api.Force, sides []Sides, weights []api.Wrench) (*system, bool) {
	y := &system{}
	for _, w := range weights {
		weight, ok := readPair6(w)
		if !ok {
			return nil, false
		}
		y.weights = append(y.weights, weight)
	}
	if len(sides) != len(forces) {
		return nil, false
	}
	for i, f := range forces {
		l, ok := y.pushesOf(f, sides[i])
		if !ok {
			return nil, false
		}
		y.pushes = append(y.pushes, l)
	}
	return y, true
}

// pushesOf returns the pushes of a force on both of its sides.
func (y *system) pushesOf(f api.Force, s Sides) ([]push, bool) {
	at, isAt := readVec(f.Point)
	normal, isNormal := readVec(f.Normal)
	if !isAt || !isNormal {
		return nil, false
	}
	wrench := pair6{at.cross(normal), normal}
	var l []push
	for _, side := range []push{{s.Along, wrench}, {s.Against, wrench.times(rational.From(-1))}} {
		if side.body < -1 || side.body >= len(y.weights) {
			return nil, false
		}
		if side.body >= 0 {
			l = append(l, side)
		}
	}
	return l, true
}

// proves reports whether a stand is right.
func (y *system) proves(s api.Stand) bool {
	if s.Stands {
		sizes, ok := reads(s.Forces)
		return ok && len(s.Motion) == 0 && y.isBalanced(sizes)
	}
	var motion []pair6
	for _, t := range s.Motion {
		twist, ok := readPair6(t)
		if !ok {
			return false
		}
		motion = append(motion, twist)
	}
	return len(s.Forces) == 0 && len(motion) == len(y.weights) && y.isPermitted(motion) && y.work(motion).Sign() > 0
}

// isBalanced reports whether forces of some sizes balance all weights.
func (y *system) isBalanced(sizes []rational.Rat) bool {
	if len(sizes) != len(y.pushes) || isNegative(sizes) {
		return false
	}
	sums := slices.Clone(y.weights)
	for i, l := range y.pushes {
		for _, p := range l {
			sums[p.body] = sums[p.body].plus(p.wrench.times(sizes[i]))
		}
	}
	return !slices.ContainsFunc(sums, func(p pair6) bool { return !p.isZero() })
}

// isPermitted reports whether no force has a negative power in a motion.
func (y *system) isPermitted(motion []pair6) bool {
	return !slices.ContainsFunc(y.pushes, func(l []push) bool {
		var power rational.Rat
		for _, p := range l {
			power = rational.Add(power, p.wrench.power(motion[p.body]))
		}
		return power.Sign() < 0
	})
}

// work returns the sum of the powers of all weights.
func (y *system) work(motion []pair6) rational.Rat {
	var sum rational.Rat
	for i, w := range y.weights {
		sum = rational.Add(sum, w.power(motion[i]))
	}
	return sum
}
