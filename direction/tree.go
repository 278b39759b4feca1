package direction

import (
	"slices"

	"dowel/api"
	"dowel/linear"
	"dowel/rational"
	"dowel/vector"
)

// Tree returns a tree of an arrangement.
func Tree(planes []api.Point) ([]api.Branch, api.Errno) {
	normals, e := read(planes)
	if e != api.OK {
		return nil, e
	}
	all := prefixes(normals)
	var tree []api.Branch
	for signs := range branches(all) {
		b := api.Branch{Signs: signs}
		d, occurs := all[len(signs)].representative(signs)
		if occurs {
			b.Direction = d
		} else {
			b.Duals = refute(normals, signs)
		}
		tree = append(tree, b)
	}
	return tree, api.OK
}

func isZero(signs []int) bool {
	return !slices.ContainsFunc(signs, func(s int) bool { return s != 0 })
}

// refute returns multipliers that prove that a list of signs, which does not occur, does not; nothing if all signs are 0. They are those by which a linear program is infeasible: the products with the normals, multiplied by their signs, are at least 1, or they are 0.
func refute(normals []vector.Vec, signs []int) []api.Number {
	if isZero(signs) {
		return nil
	}
	var rows []api.Row
	for i, s := range signs {
		n, m := normals[i].Point(), vector.Neg(normals[i]).Point()
		switch s {
		case 1:
			rows = append(rows, api.Row{Coefficients: m[:], Bound: "-1"})
		case -1:
			rows = append(rows, api.Row{Coefficients: n[:], Bound: "-1"})
		default:
			rows = append(rows, api.Row{Coefficients: m[:], Bound: "0"}, api.Row{Coefficients: n[:], Bound: "0"})
		}
	}
	o, _ := linear.Feasible(3, rows)
	duals, _ := rational.Reads(o.Duals)
	multipliers := make([]api.Number, len(signs))
	for i, s := range signs {
		if len(duals) < 2-s*s {
			return nil
		}
		if s != 0 {
			multipliers[i], duals = duals[0].Number(), duals[1:]
			continue
		}
		multipliers[i], duals = rational.Sub(duals[0], duals[1]).Number(), duals[2:]
	}
	return multipliers
}

// Verify returns OK for a tree of an arrangement, with any directions that have the right signs.
func Verify(planes []api.Point, tree []api.Branch) api.Errno {
	normals, e := read(planes)
	if e != api.OK {
		return e
	}
	rest, ok := verify(normals, tree, nil)
	if !ok || len(rest) > 0 {
		return api.ErrCertificate
	}
	return api.OK
}

// verify takes the branch with some signs, and all that belong to it, off the beginning of a tree, and reports whether they are right.
func verify(normals []vector.Vec, tree []api.Branch, signs []int) ([]api.Branch, bool) {
	if len(tree) == 0 || !slices.Equal(tree[0].Signs, signs) {
		return nil, false
	}
	b, rest := tree[0], tree[1:]
	if b.Direction == (api.Point{}) {
		return rest, refutes(normals[:len(signs)], signs, b.Duals)
	}
	if len(b.Duals) > 0 || !hasSigns(normals[:len(signs)], b.Direction, signs) {
		return nil, false
	}
	if len(signs) == len(normals) {
		return rest, true
	}
	for sign := -1; sign <= 1; sign++ {
		var ok bool
		if rest, ok = verify(normals, rest, append(slices.Clone(signs), sign)); !ok {
			return nil, false
		}
	}
	return rest, true
}

// hasSigns reports whether a point is a direction with some signs.
func hasSigns(normals []vector.Vec, d api.Point, signs []int) bool {
	v, e := readPoint(d)
	if e != api.OK {
		return false
	}
	p, _ := vector.Primitive(v)
	return vector.Equal(p, v) && slices.Equal(signsOf(normals, v), signs)
}

// refutes reports whether multipliers prove that a list of signs does not occur.
func refutes(normals []vector.Vec, signs []int, duals []api.Number) bool {
	if isZero(signs) {
		return len(duals) == 0 && isIndependent(normals)
	}
	if len(duals) != len(signs) {
		return false
	}
	l, e := rational.Reads(duals)
	if e != api.OK {
		return false
	}
	var sum vector.Vec
	isPositive := false
	for i, m := range l {
		if signs[i] == 0 {
			sum = vector.Add(sum, vector.Scale(normals[i], m))
			continue
		}
		if m.Sign() < 0 {
			return false
		}
		isPositive = isPositive || m.Sign() > 0
		sum = vector.Add(sum, vector.Scale(normals[i], rational.Mul(m, rational.From(signs[i]))))
	}
	return isPositive && vector.IsZero(sum)
}

// isIndependent reports whether three of some normals are linearly independent.
func isIndependent(normals []vector.Vec) bool {
	for i, a := range normals {
		for k, b := range normals[:i] {
			for _, c := range normals[:k] {
				if vector.Det(a, b, c).Sign() != 0 {
					return true
				}
			}
		}
	}
	return false
}

// Directions returns the directions of the branches of a tree with as many signs as there are planes.
func Directions(tree []api.Branch, planes int) ([]api.Point, api.Errno) {
	if planes < 0 || planes > api.MaxPlanes {
		return nil, api.ErrRange
	}
	var l []api.Point
	for _, b := range tree {
		if len(b.Signs) == planes && b.Direction != (api.Point{}) {
			l = append(l, b.Direction)
		}
	}
	return l, api.OK
}
