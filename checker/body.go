package checker

import (
	"slices"

	"dowel/api"
	"dowel/rational"
)

// plane is the points x with normal.x = offset; a cell lies where this is less.
type plane struct {
	normal vec
	offset rational.Rat
}

// key is the numbers of a plane, of whose multiples by positive numbers only one is taken.
type key [4]api.Number

func (p plane) key() key {
	by, _ := rational.Div(rational.From(1), rational.Abs(p.normal.lead()))
	var k key
	for i, x := range p.normal {
		k[i] = rational.Mul(x, by).Number()
	}
	k[3] = rational.Mul(p.offset, by).Number()
	return k
}

// body is a cell in its place.
type body struct {
	vertices []vec
	planes   []plane
	edges    []vec // their directions
}

// motion is a rotation, and then a shift.
type motion struct {
	rows  [3]vec
	shift vec
}

// motionOf returns the motion of a placement.
func motionOf(p api.Placement) (motion, bool) {
	shift, ok := readVec(p.Shift)
	w, x, y, z := p.Turn[0], p.Turn[1], p.Turn[2], p.Turn[3]
	by, e := rational.Div(rational.From(1), rational.From(w*w+x*x+y*y+z*z))
	if !ok || e != api.OK {
		return motion{}, false
	}
	m := motion{shift: shift}
	for i, r := range [3]api.Vector{
		{w*w + x*x - y*y - z*z, 2 * (x*y - w*z), 2 * (x*z + w*y)},
		{2 * (x*y + w*z), w*w - x*x + y*y - z*z, 2 * (y*z - w*x)},
		{2 * (x*z - w*y), 2 * (y*z + w*x), w*w - x*x - y*y + z*z},
	} {
		m.rows[i] = ofInts(r).times(by)
	}
	return m, true
}

func (m motion) turn(v vec) vec {
	return vec{m.rows[0].dot(v), m.rows[1].dot(v), m.rows[2].dot(v)}
}

// newBody returns a cell, moved.
func newBody(c api.Cell, m motion) *body {
	var vertices []vec
	for _, v := range c.Vertices {
		vertices = append(vertices, ofInts(v))
	}
	planes := planesOf(vertices)
	b := &body{edges: edgesOf(vertices, planes)}
	for _, v := range vertices {
		b.vertices = append(b.vertices, m.turn(v).plus(m.shift))
	}
	for _, p := range planes {
		normal := m.turn(p.normal)
		b.planes = append(b.planes, plane{normal, rational.Add(p.offset, normal.dot(m.shift))})
	}
	for i, d := range b.edges {
		b.edges[i] = m.turn(d)
	}
	return b
}

// planesOf returns the planes of the faces of a cell.
func planesOf(vertices []vec) []plane {
	found := map[key]bool{}
	var l []plane
	for i, a := range vertices {
		for k, b := range vertices[:i] {
			for _, c := range vertices[:k] {
				p, ok := planeThrough(vertices, a, b, c)
				if ok && !found[p.key()] {
					found[p.key()] = true
					l = append(l, p)
				}
			}
		}
	}
	return l
}

// planeThrough returns the plane of three vertices, if it is that of a face.
func planeThrough(vertices []vec, a, b, c vec) (plane, bool) {
	normal := b.minus(a).cross(c.minus(a))
	if normal.isZero() {
		return plane{}, false
	}
	offset := normal.dot(a)
	isOver, isUnder := false, false
	for _, v := range vertices {
		sign := rational.Compare(normal.dot(v), offset)
		isOver, isUnder = isOver || sign > 0, isUnder || sign < 0
	}
	if isOver {
		normal, offset = normal.neg(), rational.Neg(offset)
	}
	return plane{normal, offset}, isOver != isUnder
}

// edgesOf returns the directions of the edges of a cell: of two vertices that lie in two faces.
func edgesOf(vertices []vec, planes []plane) []vec {
	var l []vec
	for i, a := range vertices {
		for _, b := range vertices[:i] {
			count := 0
			for _, p := range planes {
				if rational.Compare(p.normal.dot(a), p.offset) == 0 && rational.Compare(p.normal.dot(b), p.offset) == 0 {
					count++
				}
			}
			if count > 1 {
				l = append(l, a.minus(b))
			}
		}
	}
	return l
}

// contains reports whether a point belongs to a body, and, if that is asked for, lies inside.
func (b *body) contains(p vec, inside bool) bool {
	return len(b.planes) > 0 && !slices.ContainsFunc(b.planes, func(x plane) bool {
		c := rational.Compare(x.normal.dot(p), x.offset)
		return c > 0 || c == 0 && inside
	})
}

// extent returns the least and the greatest product of a vector and a point of a body.
func (b *body) extent(n vec) (low, high rational.Rat) {
	for i, v := range b.vertices {
		x := n.dot(v)
		if i == 0 {
			low, high = x, x
		}
		low, high = rational.Min(low, x), rational.Max(high, x)
	}
	return low, high
}

// scene is an assembly whose cells are placed when they are needed.
type scene struct {
	assembly api.Assembly
	bodies   map[Cell]*body
	pairs    map[[2]Cell]*pair
}

func newScene(a api.Assembly) *scene {
	return &scene{a, map[Cell]*body{}, map[[2]Cell]*pair{}}
}

// cells returns the number of cells of an instance; 0 if there is none.
func (s *scene) cells(instance int) int {
	p, ok := s.part(instance)
	if !ok {
		return 0
	}
	return len(p.Cells)
}

// part returns the part of an instance.
func (s *scene) part(instance int) (api.Part, bool) {
	if instance < 0 || instance >= len(s.assembly.Instances) {
		return api.Part{}, false
	}
	name := s.assembly.Instances[instance].Part
	at := slices.IndexFunc(s.assembly.Parts, func(p api.Part) bool { return p.Name == name })
	if at < 0 {
		return api.Part{}, false
	}
	return s.assembly.Parts[at], true
}

// body returns a cell in its place, if it is there.
func (s *scene) body(c Cell) (*body, bool) {
	if b, ok := s.bodies[c]; ok {
		return b, true
	}
	p, ok := s.part(c.Instance)
	if !ok || c.Cell < 0 || c.Cell >= len(p.Cells) {
		return nil, false
	}
	m, ok := motionOf(s.assembly.Instances[c.Instance].Place)
	if !ok {
		return nil, false
	}
	b := newBody(p.Cells[c.Cell], m)
	s.bodies[c] = b
	return b, true
}

// both returns two cells of different instances.
func (s *scene) both(x, y Cell) (a, b *body, ok bool) {
	a, isA := s.body(x)
	b, isB := s.body(y)
	return a, b, isA && isB && x.Instance != y.Instance
}
