package dimension

import (
	"iter"
	"slices"

	"dowel/api"
	"dowel/rational"
)

// walk yields an expression and all those inside in preorder, each with its level.
func walk(x api.Expr, level int) iter.Seq2[int, api.Expr] {
	return func(yield func(int, api.Expr) bool) { visit(x, level, yield) }
}

// visit yields an expression and those inside; false if this shall end.
func visit(x api.Expr, level int, yield func(int, api.Expr) bool) bool {
	if !yield(level, x) {
		return false
	}
	for _, y := range x.Args {
		if !visit(y, level+1, yield) {
			return false
		}
	}
	return true
}

// CheckExpr returns OK for a valid expression over n dimensions.
func CheckExpr(x api.Expr, n int) api.Errno {
	if n < 0 || n > api.MaxDimensions {
		return api.ErrRange
	}
	visited := 0
	for level, y := range walk(x, 1) {
		if visited == MaxNodes {
			return api.ErrLimit
		}
		visited++
		if level > MaxDepth {
			return api.ErrDepth
		}
		if e := checkNode(y, n); e != api.OK {
			return e
		}
	}
	return api.OK
}

// checkNode returns the error of an expression, without those inside.
func checkNode(x api.Expr, n int) api.Errno {
	if x.Op < api.OpForm || x.Op > api.OpAbs {
		return api.ErrKind
	}
	isSingle := x.Op == api.OpScale || x.Op == api.OpAbs
	switch {
	case x.Op == api.OpForm && len(x.Args) > 0,
		x.Op != api.OpForm && len(x.Args) == 0,
		isSingle && len(x.Args) != 1,
		x.Op != api.OpForm && (x.Form.Constant != "" || len(x.Form.Terms) > 0),
		x.Op != api.OpScale && x.Factor != "":
		return api.ErrForm
	case x.Op == api.OpForm:
		return CheckForm(x.Form, n)
	case x.Op == api.OpScale:
		_, e := rational.Parse(x.Factor)
		return e
	}
	return api.OK
}

// combination returns the function that combines the values of the arguments of an operation, two at a time.
func combination(op int) func(a, b rational.Rat) rational.Rat {
	switch op {
	case api.OpMin:
		return rational.Min
	case api.OpMax:
		return rational.Max
	}
	return func(a, b rational.Rat) rational.Rat { return rational.Add(a, b) }
}

// fold combines the values of a list.
func fold(l []rational.Rat, combine func(a, b rational.Rat) rational.Rat) rational.Rat {
	var value rational.Rat
	for i, a := range l {
		if i == 0 {
			value = a
			continue
		}
		value = combine(value, a)
	}
	return value
}

// Evaluate returns the value of an expression.
func Evaluate(x api.Expr, at []rational.Rat) (rational.Rat, api.Errno) {
	if x.Op == api.OpForm {
		return Value(x.Form, at)
	}
	var values []rational.Rat
	for _, y := range x.Args {
		v, e := Evaluate(y, at)
		if e != api.OK {
			return rational.Rat{}, e
		}
		values = append(values, v)
	}
	value := fold(values, combination(x.Op))
	switch x.Op {
	case api.OpScale:
		factor, _ := rational.Read(x.Factor)
		value = rational.Mul(value, factor)
	case api.OpAbs:
		value = rational.Abs(value)
	}
	return value, api.OK
}

// Bounds returns bounds of the value of an expression over all values of the dimensions.
func Bounds(x api.Expr, l []api.Dimension) (low, high rational.Rat, e api.Errno) {
	if x.Op == api.OpForm {
		return formBounds(x.Form, l)
	}
	var lows, highs []rational.Rat
	for _, y := range x.Args {
		a, b, e := Bounds(y, l)
		if e != api.OK {
			return rational.Rat{}, rational.Rat{}, e
		}
		lows, highs = append(lows, a), append(highs, b)
	}
	low, high = fold(lows, combination(x.Op)), fold(highs, combination(x.Op))
	switch x.Op {
	case api.OpScale:
		factor, _ := rational.Read(x.Factor)
		low, high = ordered(rational.Mul(low, factor), rational.Mul(high, factor))
	case api.OpAbs:
		hasZero := low.Sign()*high.Sign() <= 0
		low, high = ordered(rational.Abs(low), rational.Abs(high))
		if hasZero {
			low = rational.Rat{}
		}
	}
	return low, high, api.OK
}

func ordered(a, b rational.Rat) (low, high rational.Rat) {
	return rational.Min(a, b), rational.Max(a, b)
}

// formBounds returns the least and the greatest value of a form.
func formBounds(f api.Form, l []api.Dimension) (low, high rational.Rat, e api.Errno) {
	constant, _ := rational.Read(f.Constant)
	low, high = constant, constant
	for _, t := range f.Terms {
		if t.Dimension < 0 || t.Dimension >= len(l) {
			return rational.Rat{}, rational.Rat{}, api.ErrSize
		}
		factor, _ := rational.Read(t.Factor)
		least, most := Range(l[t.Dimension])
		a, b := ordered(rational.Mul(factor, rational.From(least)), rational.Mul(factor, rational.From(most)))
		low, high = rational.Add(low, a), rational.Add(high, b)
	}
	return low, high, api.OK
}

// Uses returns the dimensions that occur in an expression.
func Uses(x api.Expr) []int {
	var l []int
	for _, y := range walk(x, 1) {
		for _, t := range y.Form.Terms {
			l = append(l, t.Dimension)
		}
	}
	slices.Sort(l)
	return slices.Compact(l)
}

// Equal reports whether all fields of two expressions are equal.
func Equal(x, y api.Expr) bool {
	return x.Op == y.Op && x.Factor == y.Factor && x.Form.Constant == y.Form.Constant && slices.Equal(x.Form.Terms, y.Form.Terms) && slices.EqualFunc(x.Args, y.Args, Equal)
}
