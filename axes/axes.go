// Package axes compares two convex shapes along all axes that can separate them: the normals of their faces, and the cross products of the directions of their edges. The layers that tell how cells lie, and when they meet, share it.
package axes

import (
	"iter"

	"dowel/api"
	"dowel/cell"
	"dowel/rational"
	"dowel/vector"
)

// Body is a shape that is prepared for comparisons.
type Body struct {
	points     grid
	normals    []normal
	directions []normal
}

// Of prepares a shape.
func Of(s cell.Shape) Body {
	b := Body{points: gridOf(s.Vertices)}
	for _, f := range s.Faces {
		b.normals = append(b.normals, normalOf(f.Normal))
	}
	for _, d := range cell.Directions(s) {
		b.directions = append(b.directions, normalOf(d))
	}
	return b
}

// Line is an axis of two shapes, by one of its two primitive normals, with the extents of both shapes.
type Line struct {
	Normal                   vector.Vec
	LowA, HighA, LowB, HighB rational.Rat
}

// Lines yields the axes of two shapes, each once (not with both of its normals): first those of faces, then those of edges.
func Lines(a, b Body) iter.Seq[Line] {
	return func(yield func(Line) bool) {
		for n := range different(candidates(a, b)) {
			l := Line{Normal: n.exact}
			l.LowA, l.HighA = a.points.extent(n)
			l.LowB, l.HighB = b.points.extent(n)
			if !yield(l) {
				return
			}
		}
	}
}

// candidates yields the normals of all axes, some of them several times.
func candidates(a, b Body) iter.Seq[normal] {
	return func(yield func(normal) bool) {
		for _, l := range [][]normal{a.normals, b.normals} {
			for _, n := range l {
				if !yield(n) {
					return
				}
			}
		}
		for _, d := range a.directions {
			for _, e := range b.directions {
				if n := cross(d, e); !vector.IsZero(n.exact) && !yield(n) {
					return
				}
			}
		}
	}
}

// Status returns how two shapes lie: api.Apart, api.Touching or api.Meeting.
func Status(a, b Body) int {
	status := api.Meeting
	for l := range Lines(a, b) {
		ahead, behind := rational.Compare(l.HighA, l.LowB), rational.Compare(l.HighB, l.LowA)
		if ahead < 0 || behind < 0 {
			return api.Apart
		}
		if ahead == 0 || behind == 0 {
			status = api.Touching
		}
	}
	return status
}

// Boxes returns how the least boxes around two lists of points lie; the points cannot be closer to one another than that.
func Boxes(a, b []vector.Vec) int {
	status := api.Meeting
	if len(a) == 0 || len(b) == 0 {
		return api.Apart
	}
	for i := range 3 {
		lowA, highA := bounds(a, i)
		lowB, highB := bounds(b, i)
		ahead, behind := rational.Compare(highA, lowB), rational.Compare(highB, lowA)
		if ahead < 0 || behind < 0 {
			return api.Apart
		}
		if ahead == 0 || behind == 0 {
			status = api.Touching
		}
	}
	return status
}

// bounds returns the least and the greatest coordinate of points.
func bounds(l []vector.Vec, coordinate int) (low, high rational.Rat) {
	low, high = l[0][coordinate], l[0][coordinate]
	for _, v := range l[1:] {
		low, high = rational.Min(low, v[coordinate]), rational.Max(high, v[coordinate])
	}
	return low, high
}
