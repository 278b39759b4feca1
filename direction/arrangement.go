package direction

import (
	"iter"

	"dowel/api"
	"dowel/cone"
	"dowel/vector"
)

// ray is an extreme ray that the cone of some list of signs has, with the planes on whose positive and negative sides it lies, as bits.
type ray struct {
	vector.Vec
	over, under uint
}

// arrangement is what the cones of all lists of signs are made of: the lines of all of them, and all rays that one of them can have. A ray belongs to the cone of a list if each of its signs is 0 or that of the list.
type arrangement struct {
	normals []vector.Vec
	lines   []vector.Vec // in reduced form
	rays    []ray
}

// arrange prepares the arrangement of some normals.
func arrange(normals []vector.Vec) arrangement {
	a := arrangement{normals: normals, lines: lineality(normals)}
	for _, v := range a.borders() {
		for _, w := range []vector.Vec{v, vector.Neg(v)} {
			a.addRay(w)
		}
	}
	return a
}

// lineality returns the basis of the directions that are parallel to all planes.
func lineality(normals []vector.Vec) []vector.Vec {
	var rows [][]api.Number
	for _, n := range normals {
		p, q := n.Point(), vector.Neg(n).Point()
		rows = append(rows, p[:], q[:])
	}
	c, _ := cone.FromRows(3, rows)
	var lines []vector.Vec
	for _, l := range c.Lines {
		v, _ := vector.Read(api.Point(l))
		lines = append(lines, v)
	}
	return lines
}

// borders returns vectors in the directions of all rays: up to the common lines, they lie on as many independent planes as is possible.
func (a arrangement) borders() []vector.Vec {
	var l []vector.Vec
	switch len(a.lines) {
	case 0:
		for i, n := range a.normals {
			for _, m := range a.normals[:i] {
				l = append(l, vector.Cross(m, n))
			}
		}
	case 1:
		for _, n := range a.normals {
			l = append(l, vector.Cross(n, a.lines[0]))
		}
	case 2:
		l = append(l, a.normals[0])
	}
	return l
}

// addRay adds the ray in a direction: it is 0 where the lines begin, and primitive.
func (a *arrangement) addRay(v vector.Vec) {
	for _, l := range a.lines {
		pivot := 0
		for l[pivot].Sign() == 0 {
			pivot++
		}
		v = vector.Sub(v, vector.Scale(l, v[pivot]))
	}
	p, _ := vector.Primitive(v)
	for _, r := range a.rays {
		if vector.Equal(r.Vec, p) {
			return
		}
	}
	r := ray{Vec: p}
	r.over, r.under = masks(signsOf(a.normals, p))
	a.rays = append(a.rays, r)
}

// masks returns the places of the positive and of the negative signs, as bits.
func masks(signs []int) (over, under uint) {
	for i, s := range signs {
		switch {
		case s > 0:
			over |= 1 << i
		case s < 0:
			under |= 1 << i
		}
	}
	return over, under
}

// representative returns the representative of a list of signs, if it occurs.
func (a arrangement) representative(signs []int) (api.Point, bool) {
	over, under := masks(signs)
	var sum vector.Vec
	var isOver, isUnder uint
	hasRay := false
	for _, r := range a.rays {
		if r.over&^over == 0 && r.under&^under == 0 {
			sum, hasRay = vector.Add(sum, r.Vec), true
			isOver, isUnder = isOver|r.over, isUnder|r.under
		}
	}
	if !hasRay && len(a.lines) > 0 {
		sum = a.lines[0]
	}
	// The products with a normal add up without cancelling one another, so the sum has each sign that one of the rays has.
	if isOver != over || isUnder != under {
		return api.Point{}, false
	}
	p, e := vector.Primitive(sum)
	if e != api.OK {
		return api.Point{}, false
	}
	return p.Point(), true
}

// prefixes returns the arrangements of the first normals: of none, of one, and so on.
func prefixes(normals []vector.Vec) []arrangement {
	l := make([]arrangement, len(normals)+1)
	for i := range l {
		l[i] = arrange(normals[:i])
	}
	return l
}

// cells yields the cells of an arrangement in increasing order of their signs.
func cells(normals []vector.Vec) iter.Seq[Cell] {
	return func(yield func(Cell) bool) {
		all := prefixes(normals)
		for b := range branches(all) {
			d, occurs := all[len(b)].representative(b)
			if len(b) == len(normals) && occurs && !yield(Cell{b, d}) {
				return
			}
		}
	}
}

// branches yields the lists of signs of the tree of an arrangement in preorder: behind each list that occurs, those with one sign more.
func branches(all []arrangement) iter.Seq[[]int] {
	return func(yield func([]int) bool) {
		var visit func(signs []int) bool
		visit = func(signs []int) bool {
			at := len(signs)
			_, occurs := all[at].representative(signs)
			if !yield(signs) {
				return false
			}
			if !occurs || at+1 == len(all) {
				return true
			}
			for sign := -1; sign <= 1; sign++ {
				longer := append(make([]int, 0, at+1), signs...)
				if !visit(append(longer, sign)) {
					return false
				}
			}
			return true
		}
		visit(nil)
	}
}
