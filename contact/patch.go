package contact

import (
	"slices"

	"dowel/rational"
	"dowel/vector"
)

// extreme returns the extreme points of some points in a plane with a normal, in the order of a patch.
func extreme(points []vector.Vec, normal vector.Vec) []vector.Vec {
	l := slices.Clone(points)
	slices.SortFunc(l, vector.Compare)
	l = slices.CompactFunc(l, vector.Equal)
	if len(l) < 3 {
		return l
	}
	first := l[0]
	slices.SortFunc(l[1:], func(a, b vector.Vec) int {
		x, y := vector.Sub(a, first), vector.Sub(b, first)
		if turn := vector.Det(normal, x, y).Sign(); turn != 0 {
			return -turn
		}
		return rational.Compare(vector.Dot(x, x), vector.Dot(y, y))
	})
	return corners(l, normal)
}

// corners leaves out the points at which a way around a patch does not turn to the left. The points are ordered around the first one; on one line with it, the nearest ones come first.
func corners(l []vector.Vec, normal vector.Vec) []vector.Vec {
	way := []vector.Vec{l[0]}
	for _, p := range l[1:] {
		for len(way) > 1 {
			a, b := way[len(way)-2], way[len(way)-1]
			if vector.Det(normal, vector.Sub(b, a), vector.Sub(p, b)).Sign() > 0 {
				break
			}
			way = way[:len(way)-1]
		}
		way = append(way, p)
	}
	return way
}
