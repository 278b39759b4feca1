package cone

import (
	"math/bits"
	"slices"

	"dowel/api"
	"dowel/integer"
)

// mostRays bounds the rays of the cones that occur on the way to a dual: a cone of fewer rows can have more rays than that of all of them.
const mostRays = 1 << 12

// generators are lines and rays in a dimension.
type generators struct {
	dim         int
	lines, rays []vec
}

// with returns the generators of the sum of two cones.
func (g generators) with(h generators) generators {
	return generators{g.dim, slices.Concat(g.lines, h.lines), slices.Concat(g.rays, h.rays)}
}

// contains reports whether a vector belongs to the dual of a cone.
func (g generators) contains(v vec) bool {
	for _, l := range g.lines {
		if dot(l, v).Sign() != 0 {
			return false
		}
	}
	for _, r := range g.rays {
		if dot(r, v).Sign() > 0 {
			return false
		}
	}
	return true
}

// bitset is a set of indices of rows.
type bitset []uint64

func (s bitset) with(i int) bitset {
	t := slices.Clone(s)
	t[i/64] |= 1 << (i % 64)
	return t
}

// size returns how many indices belong to both of two sets of the same width.
func size(s, t bitset) int {
	n := 0
	for i := range s {
		n += bits.OnesCount64(s[i] & t[i])
	}
	return n
}

// isPart reports whether each index that belongs to both of two sets belongs to a third one.
func isPart(s, t, whole bitset) bool {
	for i := range s {
		if s[i]&t[i]&^whole[i] != 0 {
			return false
		}
	}
	return true
}

// common returns the indices that belong to both of two sets.
func common(s, t bitset) bitset {
	both := slices.Clone(s)
	for i := range t {
		both[i] &= t[i]
	}
	return both
}

// ray is an extreme ray of the cone of the rows so far, with the rows whose product with it is 0.
type ray struct {
	vec
	zeros bitset
}

// description is the double description of a cone of rows: its lines and its extreme rays.
type description struct {
	lines []vec
	rays  []ray
	rank  int // the dimension of the space of the rays, up to lines
	rows  int
	width int // of all sets of rows
}

// dual returns the dual of the cone of some generators, which are its rows, without superfluous lines and rays.
func dual(g generators) (generators, api.Errno) {
	rows := different(g.rays)
	d := description{width: (len(rows) + 63) / 64}
	for i := range g.dim {
		unit := make(vec, g.dim)
		unit[i] = integer.From(1)
		d.lines = append(d.lines, unit)
	}
	for _, row := range g.lines {
		d.equation(row)
	}
	for i := range len(rows) {
		d.add(rows[i])
		if len(d.rays) > mostRays {
			return generators{}, api.ErrLimit
		}
	}
	c := generators{dim: g.dim, lines: d.lines}
	for _, r := range d.rays {
		c.rays = append(c.rays, r.vec)
	}
	return c, api.OK
}

// different returns the vectors of a list that are not 0, each once, in an order in which fewer rays occur on the way than in most others.
func different(l []vec) []vec {
	found := map[string]bool{}
	var rest []vec
	for _, v := range l {
		if t := text(v); !found[t] && !isZero(v) {
			found[t] = true
			rest = append(rest, v)
		}
	}
	slices.SortFunc(rest, func(a, b vec) int { return slices.CompareFunc(a, b, integer.Compare) })
	return rest
}

// takeLine takes a line that is not perpendicular to a row away, and makes all others perpendicular to the row.
func (d *description) takeLine(row vec) (line vec, product integer.Int, ok bool) {
	at := slices.IndexFunc(d.lines, func(l vec) bool { return dot(row, l).Sign() != 0 })
	if at < 0 {
		return nil, integer.Int{}, false
	}
	line = d.lines[at]
	product = dot(row, line)
	if product.Sign() > 0 {
		line, product = negative(line), integer.Neg(product)
	}
	d.lines = slices.Delete(d.lines, at, at+1)
	for i, l := range d.lines {
		d.lines[i] = combine(l, product, line, dot(row, l))
	}
	return line, product, true
}

// equation leaves only the vectors whose product with a row is 0; there are no rays yet.
func (d *description) equation(row vec) { d.takeLine(row) }

// add leaves only the vectors whose product with a row is not positive.
func (d *description) add(row vec) {
	index := d.rows
	d.rows++
	line, product, ok := d.takeLine(row)
	if !ok {
		d.cut(row, index)
		return
	}
	size := integer.Neg(product)
	for i, r := range d.rays {
		d.rays[i] = ray{combine(r.vec, size, line, integer.Neg(dot(row, r.vec))), r.zeros.with(index)}
	}
	zeros := make(bitset, d.width)
	for i := range index {
		zeros = zeros.with(i)
	}
	d.rays = append(d.rays, ray{line, zeros})
	d.rank++
}

// cut leaves out the rays with a positive product, and adds those at which the row cuts the faces between them and the others.
func (d *description) cut(row vec, index int) {
	var kept, above, below []ray
	var overs, unders []integer.Int
	for _, r := range d.rays {
		switch p := dot(row, r.vec); p.Sign() {
		case 1:
			above, overs = append(above, r), append(overs, p)
		case -1:
			below, unders = append(below, r), append(unders, p)
		default:
			r.zeros = r.zeros.with(index)
			kept = append(kept, r)
		}
	}
	var made []ray
	for i, a := range above {
		for k, b := range below {
			if d.isAdjacent(a, b) {
				made = append(made, ray{combine(b.vec, overs[i], a.vec, unders[k]), common(a.zeros, b.zeros).with(index)})
			}
		}
		if len(made) > mostRays {
			break
		}
	}
	d.rays = slices.Concat(kept, below, made)
}

// isAdjacent reports whether no ray but these two lies on all rows on which both lie: so there is a face of two dimensions between them.
func (d *description) isAdjacent(a, b ray) bool {
	if size(a.zeros, b.zeros) < d.rank-2 {
		return false
	}
	rays := 0
	for _, r := range d.rays {
		if isPart(a.zeros, b.zeros, r.zeros) {
			rays++
		}
		if rays > 2 {
			return false
		}
	}
	return true
}
