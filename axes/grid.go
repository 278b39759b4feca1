package axes

import (
	"iter"

	"dowel/api"
	"dowel/rational"
	"dowel/vector"
)

// The bounds of numbers whose products, and sums of three of these, are ints.
const (
	normalBound = 1 << 30
	pointBound  = 1 << 31
)

// normal is a vector, and the same one as ints, if it is small: then products of it need no rational numbers.
type normal struct {
	exact   vector.Vec
	small   api.Vector
	isSmall bool
}

// normalOf returns the primitive vector with the direction of v, or its negative: the one whose first coordinate that is not 0 is positive.
func normalOf(v vector.Vec) normal {
	v, _ = vector.Primitive(v)
	if vector.Compare(v, vector.Vec{}) < 0 {
		v = vector.Neg(v)
	}
	small, e := v.Integers()
	if e != api.OK || !isBelow(small, normalBound) {
		return normal{exact: v}
	}
	return normal{v, small, true}
}

func isBelow(v api.Vector, bound int) bool {
	for _, n := range v {
		if n <= -bound || n >= bound {
			return false
		}
	}
	return true
}

// cross returns the primitive normal that is perpendicular to two directions, or 0.
func cross(a, b normal) normal {
	if !a.isSmall || !b.isSmall {
		return normalOf(vector.Cross(a.exact, b.exact))
	}
	x, y := a.small, b.small
	n := api.Vector{x[1]*y[2] - x[2]*y[1], x[2]*y[0] - x[0]*y[2], x[0]*y[1] - x[1]*y[0]}
	divisor := 0
	for _, k := range n {
		divisor = gcd(divisor, k)
	}
	if divisor == 0 {
		return normal{}
	}
	if n[0] < 0 || n[0] == 0 && (n[1] < 0 || n[1] == 0 && n[2] < 0) {
		divisor = -divisor
	}
	for i := range n {
		n[i] /= divisor
	}
	if !isBelow(n, normalBound) {
		return normal{exact: vector.Of(n)}
	}
	return normal{vector.Of(n), n, true}
}

// gcd returns the greatest common divisor of two ints.
func gcd(a, b int) int {
	for b != 0 {
		a, b = b, a%b
	}
	return max(a, -a)
}

// different yields the normals of a sequence, each once, without 0.
func different(l iter.Seq[normal]) iter.Seq[normal] {
	return func(yield func(normal) bool) {
		small, others := map[api.Vector]bool{}, map[api.Point]bool{}
		for n := range l {
			switch {
			case vector.IsZero(n.exact):
				continue
			case n.isSmall:
				if small[n.small] {
					continue
				}
				small[n.small] = true
			default:
				if others[n.exact.Point()] {
					continue
				}
				others[n.exact.Point()] = true
			}
			if !yield(n) {
				return
			}
		}
	}
}

// grid is points, and the same ones as multiples of a part of 1, if all of these are small ints.
type grid struct {
	exact  []vector.Vec
	scaled []api.Vector
	parts  int // 0 if there are no such multiples
}

func gridOf(l []vector.Vec) grid {
	g := grid{exact: l}
	parts := 1
	for _, v := range l {
		for _, x := range v {
			den, ok := x.Den().Int()
			if !ok || den >= pointBound || parts/gcd(parts, den)*den >= pointBound {
				return g
			}
			parts *= den / gcd(parts, den)
		}
	}
	for _, v := range l {
		s, e := vector.Scale(v, rational.From(parts)).Integers()
		if e != api.OK || !isBelow(s, pointBound) {
			return grid{exact: l}
		}
		g.scaled = append(g.scaled, s)
	}
	g.parts = parts
	return g
}

// extent returns the least and the greatest scalar product of a normal and a point.
func (g grid) extent(n normal) (low, high rational.Rat) {
	if n.isSmall && g.parts > 0 {
		return g.smallExtent(n.small)
	}
	for i, v := range g.exact {
		x := vector.Dot(n.exact, v)
		if i == 0 {
			low, high = x, x
		}
		low, high = rational.Min(low, x), rational.Max(high, x)
	}
	return low, high
}

func (g grid) smallExtent(n api.Vector) (low, high rational.Rat) {
	least, most := 0, 0
	for i, v := range g.scaled {
		x := n[0]*v[0] + n[1]*v[1] + n[2]*v[2]
		if i == 0 {
			least, most = x, x
		}
		least, most = min(least, x), max(most, x)
	}
	if g.parts == 1 {
		return rational.From(least), rational.From(most)
	}
	parts := rational.From(g.parts)
	low, _ = rational.Div(rational.From(least), parts)
	high, _ = rational.Div(rational.From(most), parts)
	return low, high
}
