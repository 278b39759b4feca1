package cell

import (
	"slices"

	"dowel/api"
)

// polygon is a face of the hull of some points: its corners, counterclockwise as seen from outside, the least index first. All calculations are those of ints, which the limit of coordinates permits.
type polygon struct {
	normal  api.Vector
	corners []int
}

// plane is the set of all points that lie in the plane of a face, as bits.
type plane struct{ points uint64 }

func isInRange(v api.Vector) bool {
	for _, n := range v {
		if n < -api.MaxCoord || n > api.MaxCoord {
			return false
		}
	}
	return true
}

func compare(a, b api.Vector) int { return slices.Compare(a[:], b[:]) }

func sub(a, b api.Vector) api.Vector { return api.Vector{a[0] - b[0], a[1] - b[1], a[2] - b[2]} }

func dot(a, b api.Vector) int { return a[0]*b[0] + a[1]*b[1] + a[2]*b[2] }

func cross(a, b api.Vector) api.Vector {
	return api.Vector{a[1]*b[2] - a[2]*b[1], a[2]*b[0] - a[0]*b[2], a[0]*b[1] - a[1]*b[0]}
}

// polygons returns the faces of the hull of some points in increasing order; nothing if all of them lie in one plane.
func polygons(points []api.Vector) []polygon {
	found := map[plane]bool{}
	var faces []polygon
	for i := range points {
		for j := range i {
			for k := range j {
				normal := cross(sub(points[j], points[i]), sub(points[k], points[i]))
				normal, members, ok := supporting(points, i, normal)
				if !ok || found[members] {
					continue
				}
				found[members] = true
				faces = append(faces, polygon{normal, walk(points, members, normal)})
			}
		}
	}
	return faces
}

// supporting returns the normal of a plane through a point, turned away from all others, and the points in the plane; false if some lie on both sides, or none on any side.
func supporting(points []api.Vector, at int, normal api.Vector) (api.Vector, plane, bool) {
	offset, side := dot(normal, points[at]), 0
	var members plane
	for i, p := range points {
		distance := dot(normal, p) - offset
		switch {
		case distance == 0:
			members.points |= 1 << i
		case side == 0:
			side = distance
		case side > 0 != (distance > 0):
			return api.Vector{}, plane{}, false
		}
	}
	if side > 0 {
		normal = sub(api.Vector{}, normal)
	}
	return normal, members, side != 0
}

// walk returns the corners of the points in a plane, from the least one on. From each corner, the next one is that from which all others lie to the left; of several ones the farthest.
func walk(points []api.Vector, members plane, normal api.Vector) []int {
	var all []int
	for i := range points {
		if members.points&(1<<i) != 0 {
			all = append(all, i)
		}
	}
	var corners []int
	for at := all[0]; len(corners) == 0 || at != all[0]; {
		corners = append(corners, at)
		next := -1
		for _, i := range all {
			if i == at {
				continue
			}
			if next < 0 || isBefore(points, at, i, next, normal) {
				next = i
			}
		}
		at = next
	}
	return corners
}

// isBefore reports whether a lies to the right of b, as seen from a corner, or behind it.
func isBefore(points []api.Vector, at, a, b int, normal api.Vector) bool {
	x, y := sub(points[a], points[at]), sub(points[b], points[at])
	turn := dot(normal, cross(x, y))
	return turn > 0 || turn == 0 && dot(x, x) > dot(y, y)
}

// corners returns the indices of all corners of some faces, in increasing order.
func corners(faces []polygon) []int {
	var l []int
	for _, f := range faces {
		l = append(l, f.corners...)
	}
	slices.Sort(l)
	return slices.Compact(l)
}
