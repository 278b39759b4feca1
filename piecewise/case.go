package piecewise

import (
	"iter"
	"slices"

	"dowel/api"
	"dowel/dimension"
	"dowel/rational"
)

// alternatives returns for each alternative of an expression how many possible values a choice has.
func alternatives(x api.Expr) []int {
	var l []int
	switch x.Op {
	case api.OpMin, api.OpMax:
		l = append(l, len(x.Args))
	case api.OpAbs:
		l = append(l, 2)
	}
	for _, y := range x.Args {
		l = append(l, alternatives(y)...)
	}
	return l
}

// choices yields all choices, for the sizes of alternatives, in lexicographic order. It always yields the same list.
func choices(sizes []int) iter.Seq[[]int] {
	return func(yield func([]int) bool) {
		if slices.Contains(sizes, 0) {
			return
		}
		choice := make([]int, len(sizes))
		for {
			if !yield(choice) {
				return
			}
			i := len(choice) - 1
			for ; i >= 0 && choice[i] == sizes[i]-1; i-- {
				choice[i] = 0
			}
			if i < 0 {
				return
			}
			choice[i]++
		}
	}
}

// resolution resolves the alternatives of an expression by a choice.
type resolution struct {
	choice  []int
	regions [][]api.Form // of each alternative
	next    int          // alternative
}

// form returns the form that an expression is.
func (r *resolution) form(x api.Expr) api.Form {
	zero := api.Form{Constant: "0"}
	index := r.next
	isAlternative := x.Op == api.OpMin || x.Op == api.OpMax || x.Op == api.OpAbs
	if isAlternative {
		r.next++
	}
	var forms []api.Form
	for _, y := range x.Args {
		forms = append(forms, r.form(y))
	}
	switch {
	case x.Op == api.OpForm:
		return dimension.Add(x.Form, zero)
	case x.Op == api.OpAbs && len(forms) > 0:
		// The magnitude is the greater one of a form and its negative.
		forms = []api.Form{forms[0], negative(forms[0])}
		r.regions[index] = []api.Form{forms[1-r.choice[index]]}
		return forms[r.choice[index]]
	case isAlternative && len(forms) > 0:
		r.regions[index] = region(x.Op, forms, r.choice[index])
		return forms[r.choice[index]]
	case x.Op == api.OpScale && len(forms) > 0:
		factor, _ := rational.Read(x.Factor)
		return dimension.Scale(forms[0], factor)
	}
	sum := zero
	for _, f := range forms {
		sum = dimension.Add(sum, f)
	}
	return sum
}

// region returns the forms that are at most 0 where the chosen one of some forms is the least or the greatest one.
func region(op int, forms []api.Form, chosen int) []api.Form {
	sign := rational.From(1)
	if op == api.OpMax {
		sign = rational.From(-1)
	}
	var l []api.Form
	for i, f := range forms {
		if i != chosen {
			l = append(l, dimension.Scale(dimension.Add(forms[chosen], negative(f)), sign))
		}
	}
	return l
}

func negative(f api.Form) api.Form { return dimension.Scale(f, rational.From(-1)) }
