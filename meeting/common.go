package meeting

import (
	"iter"
	"slices"

	"dowel/cell"
	"dowel/rational"
	"dowel/vector"
)

// Common returns the vertices of the intersection of two shapes.
func Common(a, b cell.Shape) []vector.Vec {
	var l []vector.Vec
	for p := range features(a, b) {
		l = append(l, p)
	}
	for p := range features(b, a) {
		l = append(l, p)
	}
	slices.SortFunc(l, vector.Compare)
	return slices.CompactFunc(l, vector.Equal)
}

// features yields the vertices of a shape that belong to another one, and the points at which its edges pass through the faces of the other one. All of them are extreme points of the intersection.
func features(a, b cell.Shape) iter.Seq[vector.Vec] {
	return func(yield func(vector.Vec) bool) {
		for _, v := range a.Vertices {
			if cell.Locate(b, v) != cell.Outside && !yield(v) {
				return
			}
		}
		for _, e := range a.Edges {
			for _, f := range b.Faces {
				if p, ok := crossing(a, e, f); ok && cell.Locate(b, p) != cell.Outside && !yield(p) {
					return
				}
			}
		}
	}
}

// crossing returns the point at which an edge passes through the plane of a face; false if its vertices do not lie on different sides.
func crossing(s cell.Shape, e cell.Edge, f cell.Face) (vector.Vec, bool) {
	if min(e.From, e.To) < 0 || max(e.From, e.To) >= len(s.Vertices) {
		return vector.Vec{}, false
	}
	from, to := s.Vertices[e.From], s.Vertices[e.To]
	x := rational.Sub(vector.Dot(f.Normal, from), f.Offset)
	y := rational.Sub(vector.Dot(f.Normal, to), f.Offset)
	if x.Sign()*y.Sign() >= 0 {
		return vector.Vec{}, false
	}
	part, _ := rational.Div(x, rational.Sub(x, y))
	return vector.Add(from, vector.Scale(vector.Sub(to, from), part)), true
}

// middle returns a point in the middle of some points, not none: if they are the vertices of a body, it is inside.
func middle(l []vector.Vec) vector.Vec {
	var sum vector.Vec
	for _, p := range l {
		sum = vector.Add(sum, p)
	}
	part, _ := rational.Div(rational.From(1), rational.From(len(l)))
	return vector.Scale(sum, part)
}
