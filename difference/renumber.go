package difference

import (
	"cmp"
	"slices"

	"dowel/api"
	"dowel/copies"
)

// renumbered returns a copy of a product in whose forms dimensions have the indices that a function returns, which is negative for one that is not there: requirements with such a one are left out, and constraints are ErrUnknown.
func renumbered(p api.Product, index func(int) int) (api.Product, api.Errno) {
	p = copies.Product(p)
	for i := range p.Constraints {
		if !renumberForm(&p.Constraints[i].Form, index) {
			return api.Product{}, api.ErrUnknown
		}
	}
	var known []api.Requirement
	for _, r := range p.Requirements {
		if renumberExpr(&r.Gap, index) {
			known = append(known, r)
		}
	}
	p.Requirements = known
	return p, api.OK
}

// renumberForm reports whether all dimensions of a form are there.
func renumberForm(f *api.Form, index func(int) int) bool {
	isKnown := true
	for i := range f.Terms {
		at := index(f.Terms[i].Dimension)
		isKnown = isKnown && at >= 0
		f.Terms[i].Dimension = at
	}
	slices.SortFunc(f.Terms, func(x, y api.Term) int { return cmp.Compare(x.Dimension, y.Dimension) })
	return isKnown
}

// renumberExpr reports whether all dimensions of an expression are there.
func renumberExpr(x *api.Expr, index func(int) int) bool {
	isKnown := renumberForm(&x.Form, index)
	for i := range x.Args {
		isKnown = renumberExpr(&x.Args[i], index) && isKnown
	}
	return isKnown
}
