package meeting

import (
	"dowel/api"
	"dowel/cell"
	"dowel/rational"
	"dowel/vector"
)

// Prove returns a proof of how two shapes lie.
func Prove(a, b cell.Shape) api.Separation {
	status := Status(a, b)
	switch status {
	case api.Apart:
		for _, n := range Axes(a, b) {
			_, high := cell.Extent(a, n)
			low, _ := cell.Extent(b, n)
			if rational.Compare(high, low) < 0 {
				middle, _ := rational.Div(rational.Add(high, low), rational.From(2))
				return api.Separation{Kind: status, Plane: api.Plane{Normal: n.Point(), Offset: middle.Number()}}
			}
		}
		return api.Separation{}
	case api.Touching:
		normals, common := Normals(a, b), Common(a, b)
		if len(normals) == 0 || len(common) == 0 {
			return api.Separation{}
		}
		_, high := cell.Extent(a, normals[0])
		return api.Separation{Kind: status, Plane: api.Plane{Normal: normals[0].Point(), Offset: high.Number()}, Point: common[0].Point()}
	}
	return api.Separation{Kind: status, Point: middle(Common(a, b)).Point()}
}

// Verify returns OK if s is a proof of how two shapes lie.
func Verify(a, b cell.Shape, s api.Separation) api.Errno {
	if proves(a, b, s) {
		return api.OK
	}
	return api.ErrCertificate
}

func proves(a, b cell.Shape, s api.Separation) bool {
	switch s.Kind {
	case api.Apart:
		return s.Point == api.Point{} && separates(a, b, s.Plane, -1)
	case api.Touching:
		p, e := vector.Read(s.Point)
		return e == api.OK && cell.Locate(a, p) != cell.Outside && cell.Locate(b, p) != cell.Outside && separates(a, b, s.Plane, 0)
	case api.Meeting:
		p, e := vector.Read(s.Point)
		return e == api.OK && s.Plane == api.Plane{} && cell.Locate(a, p) == cell.Inside && cell.Locate(b, p) == cell.Inside
	}
	return false
}

// separates reports whether all vertices of one shape lie on one side of a plane, and those of the other one on the other side: strictly for most = -1, and otherwise, for 0, possibly on it.
func separates(a, b cell.Shape, p api.Plane, most int) bool {
	normal, e := vector.Read(p.Normal)
	if e != api.OK || vector.IsZero(normal) {
		return false
	}
	offset, e := rational.Read(p.Offset)
	if e != api.OK {
		return false
	}
	for _, v := range a.Vertices {
		if rational.Compare(vector.Dot(normal, v), offset) > most {
			return false
		}
	}
	for _, v := range b.Vertices {
		if rational.Compare(offset, vector.Dot(normal, v)) > most {
			return false
		}
	}
	return true
}
