package checker

import (
	"slices"

	"dowel/api"
	"dowel/rational"
)

// readArrangement returns the normals of an arrangement, if it is one.
func readArrangement(planes []api.Point) ([]vec, bool) {
	if len(planes) > api.MaxPlanes {
		return nil, false
	}
	var normals []vec
	for i, p := range planes {
		n, ok := readVec(p)
		if !ok || !n.isDirection() || n.lead().Sign() < 0 || i > 0 && normals[i-1].compare(n) >= 0 {
			return nil, false
		}
		normals = append(normals, n)
	}
	return normals, true
}

// isTree reports whether branches are a tree of an arrangement.
func isTree(normals []vec, tree []api.Branch) bool {
	left, ok := leave(normals, tree, nil)
	return ok && len(left) == 0
}

// leave returns what is left of a tree behind the branch with some signs and all that belongs to it, if these are right.
func leave(normals []vec, tree []api.Branch, signs []int) (left []api.Branch, ok bool) {
	if len(tree) == 0 || !slices.Equal(tree[0].Signs, signs) {
		return nil, false
	}
	b := tree[0]
	left = tree[1:]
	first := normals[:len(signs)]
	if isEmpty(b.Direction) {
		return left, isRefuted(first, signs, b.Duals)
	}
	d, ok := readVec(b.Direction)
	if !ok || !d.isDirection() || len(b.Duals) > 0 || !slices.Equal(signsOf(first, d), signs) {
		return nil, false
	}
	if len(signs) == len(normals) {
		return left, true
	}
	for sign := -1; sign <= 1; sign++ {
		left, ok = leave(normals, left, append(slices.Clone(signs), sign))
		if !ok {
			return nil, false
		}
	}
	return left, true
}

func isEmpty(p api.Point) bool { return p == api.Point{} }

// signsOf returns the signs of a vector.
func signsOf(normals []vec, d vec) []int {
	l := make([]int, len(normals))
	for i, n := range normals {
		l[i] = n.dot(d).Sign()
	}
	return l
}

// isRefuted reports whether multipliers prove that signs do not occur; if all of them are 0, three normals have to.
func isRefuted(normals []vec, signs []int, duals []api.Number) bool {
	by, ok := reads(duals)
	if !ok {
		return false
	}
	if !slices.ContainsFunc(signs, func(s int) bool { return s != 0 }) {
		return len(by) == 0 && rank(normals) == 3
	}
	if len(by) != len(signs) {
		return false
	}
	var sum vec
	isPositive := false
	for i, m := range by {
		if signs[i] != 0 {
			if m.Sign() < 0 {
				return false
			}
			isPositive = isPositive || m.Sign() > 0
			m = rational.Mul(m, rational.From(signs[i]))
		}
		sum = sum.plus(normals[i].times(m))
	}
	return isPositive && sum.isZero()
}

// common returns a vector that is perpendicular to all normals, for two of them that are not parallel; 0 without such ones.
func common(normals []vec) vec {
	for i, a := range normals {
		for _, b := range normals[:i] {
			if c := a.cross(b); !c.isZero() {
				return c
			}
		}
	}
	return vec{}
}

// rank returns the dimension of what normals span.
func rank(normals []vec) int {
	if len(normals) == 0 {
		return 0
	}
	line := common(normals)
	switch {
	case line.isZero():
		return 1
	case slices.ContainsFunc(normals, func(n vec) bool { return n.dot(line).Sign() != 0 }):
		return 3
	}
	return 2
}

// generators returns vectors of which those that have only signs of a cell, or 0, generate its cone.
func generators(normals []vec) []vec {
	one := rational.From(1)
	units := []vec{{0: one}, {1: one}, {2: one}}
	var l []vec // of each one, both directions count
	switch rank(normals) {
	case 0:
		l = units
	case 1:
		l = append(crosses(normals[:1], units), normals[0])
	case 2:
		line := common(normals)
		l = append(crosses(normals, []vec{line}), line)
	case 3:
		l = crosses(normals, normals)
	}
	found := map[key]bool{}
	var both []vec
	for _, g := range l {
		for _, d := range []vec{g, g.neg()} {
			if k := (plane{normal: d}).key(); !found[k] {
				found[k] = true
				both = append(both, d)
			}
		}
	}
	return both
}

// crosses returns the vectors that are perpendicular to one of each list, and not 0.
func crosses(l, others []vec) []vec {
	var made []vec
	for _, a := range l {
		for _, b := range others {
			if c := a.cross(b); !c.isZero() {
				made = append(made, c)
			}
		}
	}
	return made
}
