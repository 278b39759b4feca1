package dimension

import (
	"slices"

	"dowel/api"
	"dowel/rational"
)

// Linear returns the form of a linear expression.
func Linear(x api.Expr) (api.Form, bool) {
	zero := api.Form{Constant: "0"}
	switch x.Op {
	case api.OpForm:
		return Add(x.Form, zero), true
	case api.OpScale:
		factor, _ := rational.Read(x.Factor)
		if factor.Sign() == 0 {
			return zero, true
		}
		f, ok := linearSum(x.Args)
		if !ok {
			return api.Form{}, false
		}
		return Scale(f, factor), true
	case api.OpAdd:
		return linearSum(x.Args)
	case api.OpMin, api.OpMax:
		if len(x.Args) == 1 {
			return Linear(x.Args[0])
		}
	}
	return api.Form{}, false
}

// linearSum returns the form of the sum of linear expressions.
func linearSum(l []api.Expr) (api.Form, bool) {
	sum := api.Form{Constant: "0"}
	for _, x := range l {
		f, ok := Linear(x)
		if !ok {
			return api.Form{}, false
		}
		sum = Add(sum, f)
	}
	return sum, true
}

func formOf(f api.Form) api.Expr { return api.Expr{Op: api.OpForm, Form: f} }

// scaled returns the multiple of an expression, as an expression.
func scaled(x api.Expr, by rational.Rat) api.Expr {
	return api.Expr{Op: api.OpScale, Factor: by.Number(), Args: []api.Expr{x}}
}

// Normal returns the normal form of an expression.
func Normal(x api.Expr) api.Expr {
	if f, ok := Linear(x); ok {
		return formOf(f)
	}
	switch x.Op {
	case api.OpAdd:
		return normalSum(x.Args)
	case api.OpScale:
		factor, _ := rational.Read(x.Factor)
		if len(x.Args) == 0 {
			return api.Expr{}
		}
		return normalMultiple(Normal(x.Args[0]), factor)
	case api.OpMin, api.OpMax:
		return normalChoice(x.Op, x.Args)
	case api.OpAbs:
		if len(x.Args) == 0 {
			return api.Expr{}
		}
		return normalMagnitude(Normal(x.Args[0]))
	}
	return api.Expr{}
}

// parts returns the normal forms of expressions, where those with an operation are replaced by their arguments.
func parts(op int, l []api.Expr) []api.Expr {
	var all []api.Expr
	for _, x := range l {
		if y := Normal(x); y.Op == op {
			all = append(all, y.Args...)
		} else {
			all = append(all, y)
		}
	}
	return all
}

// together returns the expression of an operation with some arguments; a single one stands alone.
func together(op int, l []api.Expr) api.Expr {
	if len(l) == 1 {
		return l[0]
	}
	return api.Expr{Op: op, Args: l}
}

func normalSum(l []api.Expr) api.Expr {
	sum := api.Form{Constant: "0"}
	var others []api.Expr
	for _, x := range parts(api.OpAdd, l) {
		if x.Op == api.OpForm {
			sum = Add(sum, x.Form)
		} else {
			others = append(others, x)
		}
	}
	if isZero := sum.Constant == "0" && len(sum.Terms) == 0; !isZero || len(others) == 0 {
		others = slices.Insert(others, 0, formOf(sum))
	}
	return together(api.OpAdd, others)
}

// normalMultiple returns the normal form of a multiple, by a factor that is not 0, of an expression in normal form.
func normalMultiple(x api.Expr, by rational.Rat) api.Expr {
	var multiples []api.Expr
	for _, y := range x.Args {
		multiples = append(multiples, scaled(y, by))
	}
	switch x.Op {
	case api.OpForm:
		return formOf(Scale(x.Form, by))
	case api.OpAdd:
		return normalSum(multiples)
	case api.OpMin, api.OpMax:
		op := x.Op
		if by.Sign() < 0 {
			op = api.OpMin + api.OpMax - op
		}
		return normalChoice(op, multiples)
	case api.OpScale:
		factor, _ := rational.Read(x.Factor)
		by, x = rational.Mul(by, factor), x.Args[0]
	}
	if by.Number() == "1" {
		return x
	}
	return scaled(x, by)
}

func normalChoice(op int, l []api.Expr) api.Expr {
	var different []api.Expr
	for _, x := range parts(op, l) {
		if !slices.ContainsFunc(different, func(y api.Expr) bool { return Equal(x, y) }) {
			different = append(different, x)
		}
	}
	return together(op, different)
}

// normalMagnitude returns the normal form of the magnitude of an expression in normal form.
func normalMagnitude(x api.Expr) api.Expr {
	if x.Op == api.OpForm {
		if len(x.Form.Terms) == 0 {
			constant, _ := rational.Read(x.Form.Constant)
			return formOf(api.Form{Constant: rational.Abs(constant).Number()})
		}
		if first, _ := rational.Read(x.Form.Terms[0].Factor); first.Sign() < 0 {
			x = formOf(Scale(x.Form, rational.From(-1)))
		}
	}
	return api.Expr{Op: api.OpAbs, Args: []api.Expr{x}}
}
