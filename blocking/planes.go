package blocking

import (
	"slices"

	"dowel/api"
	"dowel/cell"
	"dowel/cone"
	"dowel/meeting"
	"dowel/vector"
)

// Planes returns the normals of the planes of blocking of a set.
func (s *Scene) Planes(set []int, blocking int) ([]api.Point, api.Errno) {
	if s == nil {
		return nil, api.ErrArgument
	}
	if e := s.CheckSet(set); e != api.OK {
		return nil, e
	}
	if blocking != api.Far && blocking != api.Local {
		return nil, api.ErrKind
	}
	found := map[api.Point]bool{}
	var planes []vector.Vec
	for i, k := range pairs(set, set) {
		if i > k {
			continue // The planes are the same in the other order.
		}
		normals, e := s.planesBetween(i, k, blocking)
		if e != api.OK {
			return nil, e
		}
		for _, n := range normals {
			if p := n.Point(); !found[p] {
				found[p] = true
				planes = append(planes, n)
			}
		}
		if len(planes) > api.MaxPlanes {
			return nil, api.ErrLimit
		}
	}
	slices.SortFunc(planes, vector.Compare)
	points := make([]api.Point, len(planes))
	for i, n := range planes {
		points[i] = n.Point()
	}
	return points, api.OK
}

// planesBetween returns the normals of the planes of blocking of two instances.
func (s *Scene) planesBetween(i, k, blocking int) ([]vector.Vec, api.Errno) {
	var l []vector.Vec
	for _, a := range s.solids[i].Cells {
		for _, b := range s.solids[k].Cells {
			if blocking == api.Local {
				l = append(l, meeting.Normals(a, b)...)
				continue
			}
			normals, e := farPlanes(a, b)
			if e != api.OK {
				return nil, e
			}
			l = append(l, normals...)
		}
	}
	for i, n := range l {
		l[i] = positive(n)
	}
	return l, api.OK
}

// farPlanes returns normals of the faces of the cone of Far of two cells.
func farPlanes(a, b cell.Shape) ([]vector.Vec, api.Errno) {
	c, e := meeting.FarCone(a, b)
	if e != api.OK {
		return nil, e
	}
	d, e := cone.Dual(c)
	if e != api.OK {
		return nil, e
	}
	var l []vector.Vec
	for _, n := range slices.Concat(d.Lines, d.Rays) {
		v, _ := vector.Read(api.Point(n))
		l = append(l, v)
	}
	return l, api.OK
}

// positive returns the primitive normal of a plane whose first number that is not 0 is positive.
func positive(v vector.Vec) vector.Vec {
	n, _ := vector.Primitive(v)
	if vector.Compare(n, vector.Vec{}) < 0 {
		return vector.Neg(n)
	}
	return n
}
