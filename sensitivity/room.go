package sensitivity

import (
	"slices"

	"dowel/api"
	"dowel/rational"
	"dowel/stackup"
)

// spare returns by how much a deviation can be widened at all.
func spare(d api.Dimension, upper bool) int {
	if upper {
		return api.MaxLength - d.Upper
	}
	return api.MaxLength + d.Lower
}

// Widen returns a problem in which a deviation is widened.
func Widen(p stackup.Problem, dimension int, upper bool, by int) (stackup.Problem, api.Errno) {
	if e := stackup.Check(p); e != api.OK {
		return stackup.Problem{}, e
	}
	if !hasDimension(p, dimension) || by < 0 || by > spare(p.Dimensions[dimension], upper) {
		return stackup.Problem{}, api.ErrRange
	}
	wide := stackup.Problem{Dimensions: slices.Clone(p.Dimensions)}
	for _, c := range p.Constraints {
		c.Form.Terms = slices.Clone(c.Form.Terms)
		wide.Constraints = append(wide.Constraints, c)
	}
	if upper {
		wide.Dimensions[dimension].Upper += by
	} else {
		wide.Dimensions[dimension].Lower -= by
	}
	return wide, api.OK
}

// Room returns by how much a deviation can be widened so that a requirement is still met.
func Room(p stackup.Problem, r api.Requirement, dimension int, upper bool) (int, api.Errno) {
	if e := stackup.Check(p); e != api.OK {
		return 0, e
	}
	if !hasDimension(p, dimension) {
		return 0, api.ErrRange
	}
	report, e := stackup.Examine(p, r)
	if e != api.OK {
		return 0, e
	}
	if !report.Met {
		return 0, api.ErrTooWide
	}
	most := spare(p.Dimensions[dimension], upper)
	room := func(bound api.Number, greatest bool) int {
		if bound == "" {
			return most
		}
		return roomBelow(p, r.Gap.Form, bound, greatest, dimension, upper, most)
	}
	return min(room(r.High, true), room(r.Low, false)), api.OK
}

// roomBelow returns by how much a deviation can be widened, at most, so that the worst case does not exceed a bound.
func roomBelow(p stackup.Problem, f api.Form, bound api.Number, greatest bool, dimension int, upper bool, most int) int {
	wide, _ := Widen(p, dimension, upper, most)
	c, _ := solve(wide, f, greatest)
	limit, _ := rational.Read(bound)
	constant, _ := rational.Read(f.Constant)
	limit = c.sign(rational.Sub(limit, constant))
	if rational.Compare(c.value, limit) <= 0 {
		return most
	}
	// The value never becomes less, and once it stays the same, it does so for ever: so it exceeds the limit right behind where it reaches it.
	c, _ = solve(p, f, greatest)
	room, _ := rational.Floor(c.reach(rowOf(dimension, upper), limit)).Int()
	return room
}
