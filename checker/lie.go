package checker

import (
	"dowel/api"
	"dowel/rational"
)

// separates reports whether two cells lie as a separation says.
func (s *scene) separates(x, y Cell, p api.Separation) bool {
	a, b, ok := s.both(x, y)
	if !ok {
		return false
	}
	var proves func() bool
	switch p.Kind {
	case api.Apart:
		proves = func() bool { return isEmpty(p.Point) && isBetween(a, b, p.Plane, true) }
	case api.Touching:
		proves = func() bool {
			at, ok := readVec(p.Point)
			return ok && a.contains(at, false) && b.contains(at, false) && isBetween(a, b, p.Plane, false)
		}
	case api.Meeting:
		proves = func() bool {
			at, ok := readVec(p.Point)
			return ok && p.Plane == api.Plane{} && a.contains(at, true) && b.contains(at, true)
		}
	default:
		return false
	}
	return proves()
}

// isBetween reports whether one body lies on one side of a plane, and another one on the other side; if it is strict, neither touches it.
func isBetween(a, b *body, p api.Plane, strict bool) bool {
	normal, ok := readVec(p.Normal)
	offset, e := rational.Read(p.Offset)
	if !ok || e != api.OK || normal.isZero() {
		return false
	}
	_, high := a.extent(normal)
	low, _ := b.extent(normal)
	before, behind := rational.Compare(high, offset), rational.Compare(offset, low)
	return before < 0 && behind < 0 || !strict && before <= 0 && behind <= 0
}

// isDistance reports whether the distance of two instances is proved.
func (s *scene) isDistance(x, y int, d api.Distance) bool {
	value, e := rational.Read(d.Value)
	a, isA := readVec(d.A)
	b, isB := readVec(d.B)
	if e != api.OK || !isA || !isB || x == y || !s.holds(x, a) || !s.holds(y, b) || rational.Compare(norm(a.minus(b)), value) != 0 {
		return false
	}
	if value.Sign() == 0 {
		return len(d.Normals) == 0
	}
	count := s.cells(y)
	if len(d.Normals) != s.cells(x)*count {
		return false
	}
	for i, p := range d.Normals {
		n, ok := readVec(p)
		c, e, areThere := s.both(Cell{x, i / count}, Cell{y, i % count})
		if !ok || !areThere || !isGap(c, e, n, value) {
			return false
		}
	}
	return true
}

// holds reports whether a point belongs to an instance.
func (s *scene) holds(instance int, p vec) bool {
	for i := range s.cells(instance) {
		if b, ok := s.body(Cell{instance, i}); ok && b.contains(p, false) {
			return true
		}
	}
	return false
}

// norm returns the greatest magnitude of the coordinates of a vector.
func norm(v vec) rational.Rat {
	return rational.Max(rational.Abs(v[0]), rational.Max(rational.Abs(v[1]), rational.Abs(v[2])))
}

// isGap reports whether two bodies are at least so far apart along a normal, whose magnitudes add up to 1.
func isGap(a, b *body, n vec, least rational.Rat) bool {
	sum := rational.Sum(rational.Abs(n[0]), rational.Abs(n[1]), rational.Abs(n[2]))
	_, high := a.extent(n)
	low, _ := b.extent(n)
	return rational.Compare(sum, rational.From(1)) == 0 && rational.Compare(rational.Sub(low, high), least) >= 0
}
