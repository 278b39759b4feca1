package solid

import (
	"cmp"
	"slices"

	"dowel/api"
	"dowel/cell"
)

// Cut returns the part in which a cell is cut by a plane.
func Cut(p api.Part, index int, normal api.Vector, offset int) (api.Part, api.Errno) {
	l, e := shapes(p)
	if e != api.OK {
		return api.Part{}, e
	}
	if e := checkCut(p, index, normal); e != api.OK {
		return api.Part{}, e
	}
	points := p.Cells[index].Vertices
	var below, above []api.Vector
	isBelow, isAbove := false, false
	for _, v := range points {
		side := cmp.Compare(dot(normal, v), offset)
		if side <= 0 {
			below, isBelow = append(below, v), isBelow || side < 0
		}
		if side >= 0 {
			above, isAbove = append(above, v), isAbove || side > 0
		}
	}
	if !isBelow || !isAbove {
		return api.Part{}, api.ErrFlat
	}
	cuts, ok := crossings(points, l[index].Edges, normal, offset)
	if !ok {
		return api.Part{}, api.ErrForm
	}
	first, e := cell.Hull(append(below, cuts...))
	if e != api.OK {
		return api.Part{}, e
	}
	second, e := cell.Hull(append(above, cuts...))
	if e != api.OK {
		return api.Part{}, e
	}
	cells := each(p.Cells, func(c api.Cell) api.Cell { return api.Cell{Vertices: slices.Clone(c.Vertices)} })
	return api.Part{Name: p.Name, Density: p.Density, Cells: slices.Replace(cells, index, index+1, first, second)}, api.OK
}

// checkCut returns the errors of a cut that do not depend on where the plane is.
func checkCut(p api.Part, index int, normal api.Vector) api.Errno {
	if index < 0 || index >= len(p.Cells) {
		return api.ErrRange
	}
	if normal == (api.Vector{}) {
		return api.ErrZero
	}
	for _, n := range normal {
		if n < -api.MaxCoord || n > api.MaxCoord {
			return api.ErrRange
		}
	}
	if len(p.Cells) == api.MaxCells {
		return api.ErrLimit
	}
	return api.OK
}

// crossings returns the points at which edges cross a plane; false if one of them has coordinates that are not integers.
func crossings(points []api.Vector, edges []cell.Edge, normal api.Vector, offset int) ([]api.Vector, bool) {
	var l []api.Vector
	for _, e := range edges {
		from, to := points[e.From], points[e.To]
		x, y := dot(normal, from), dot(normal, to)
		if cmp.Compare(x, offset)*cmp.Compare(y, offset) >= 0 {
			continue
		}
		var p api.Vector
		for i := range p {
			way := (to[i] - from[i]) * (offset - x)
			if way%(y-x) != 0 {
				return nil, false
			}
			p[i] = from[i] + way/(y-x)
		}
		l = append(l, p)
	}
	return l, true
}

func dot(a, b api.Vector) int { return a[0]*b[0] + a[1]*b[1] + a[2]*b[2] }
