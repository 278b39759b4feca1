package document

import (
	"dowel/api"
	"dowel/margin"
	"dowel/naming"
	"dowel/rational"
)

// Check returns the error of a product that is not well-formed.
func Check(p api.Product) api.Errno {
	if !naming.Is(p.Name) {
		return api.ErrName
	}
	for _, check := range []func(api.Product) api.Errno{checkParts, checkInstances, checkDimensions, checkConstraints, checkRequirements} {
		if e := check(p); e != api.OK {
			return e
		}
	}
	return api.OK
}

// CheckExpr returns the error of an expression of some dimensions that is not well-formed.
func CheckExpr(dimensions []api.Dimension, x api.Expr) api.Errno {
	nodes := 0
	return checkExpr(len(dimensions), x, 1, &nodes)
}

func isWithin(n, most int) bool { return n >= -most && n <= most }

func checkParts(p api.Product) api.Errno {
	if len(p.Assembly.Parts) > api.MaxParts {
		return api.ErrLimit
	}
	earlier := naming.Set{}
	for _, part := range p.Assembly.Parts {
		if e := earlier.Add(part.Name); e != api.OK {
			return e
		}
		if part.Density < 1 || part.Density > api.MaxSmall {
			return api.ErrRange
		}
		if len(part.Cells) > api.MaxCells {
			return api.ErrLimit
		}
		for _, c := range part.Cells {
			if e := checkCell(c); e != api.OK {
				return e
			}
		}
	}
	return api.OK
}

func checkCell(c api.Cell) api.Errno {
	if len(c.Vertices) > api.MaxVertices {
		return api.ErrLimit
	}
	for _, v := range c.Vertices {
		for _, n := range v {
			if !isWithin(n, api.MaxCoord) {
				return api.ErrRange
			}
		}
	}
	return api.OK
}

func checkInstances(p api.Product) api.Errno {
	if len(p.Assembly.Instances) > api.MaxInstances {
		return api.ErrLimit
	}
	parts := naming.Set{}
	for _, part := range p.Assembly.Parts {
		parts[part.Name] = true
	}
	earlier := naming.Set{}
	for _, i := range p.Assembly.Instances {
		if e := earlier.Add(i.Name); e != api.OK {
			return e
		}
		if !parts[i.Part] {
			return api.ErrUnknown
		}
		if e := checkPlace(i.Place); e != api.OK {
			return e
		}
	}
	return api.OK
}

func checkPlace(p api.Placement) api.Errno {
	for _, n := range p.Turn {
		if !isWithin(n, api.MaxTurn) {
			return api.ErrRange
		}
	}
	for _, n := range p.Shift {
		if _, e := rational.Parse(n); e != api.OK {
			return e
		}
	}
	return api.OK
}

func checkDimensions(p api.Product) api.Errno {
	if len(p.Dimensions) > api.MaxDimensions {
		return api.ErrLimit
	}
	earlier := naming.Set{}
	for _, d := range p.Dimensions {
		if e := earlier.Add(d.Name); e != api.OK {
			return e
		}
		for _, n := range []int{d.Nominal, d.Lower, d.Upper} {
			if !isWithin(n, api.MaxLength) {
				return api.ErrRange
			}
		}
		if d.Lower > d.Upper {
			return api.ErrOrder
		}
	}
	return api.OK
}

func checkConstraints(p api.Product) api.Errno {
	if len(p.Constraints) > api.MaxRequirements {
		return api.ErrLimit
	}
	earlier := naming.Set{}
	for _, c := range p.Constraints {
		if e := earlier.Add(c.Name); e != api.OK {
			return e
		}
		if e := checkForm(len(p.Dimensions), c.Form); e != api.OK {
			return e
		}
	}
	return api.OK
}

func checkRequirements(p api.Product) api.Errno {
	if len(p.Requirements) > api.MaxRequirements {
		return api.ErrLimit
	}
	earlier := naming.Set{}
	for _, r := range p.Requirements {
		if e := earlier.Add(r.Name); e != api.OK {
			return e
		}
		if e := CheckExpr(p.Dimensions, r.Gap); e != api.OK {
			return e
		}
		if e := margin.Check(r.Low, r.High); e != api.OK {
			return e
		}
	}
	return api.OK
}

// checkForm returns the error of a form of n dimensions.
func checkForm(n int, f api.Form) api.Errno {
	if _, e := rational.Parse(f.Constant); e != api.OK {
		return e
	}
	if len(f.Terms) > api.MaxTerms {
		return api.ErrLimit
	}
	for i, t := range f.Terms {
		if t.Dimension < 0 || t.Dimension >= n {
			return api.ErrNotFound
		}
		if i > 0 && t.Dimension <= f.Terms[i-1].Dimension {
			return api.ErrOrder
		}
		factor, e := rational.Parse(t.Factor)
		if e != api.OK {
			return e
		}
		if factor.Sign() == 0 {
			return api.ErrZero
		}
	}
	return api.OK
}

// checkExpr returns the error of an expression of n dimensions on a level, behind a number of others.
func checkExpr(n int, x api.Expr, level int, nodes *int) api.Errno {
	if level > MaxDepth {
		return api.ErrDepth
	}
	if *nodes == MaxNodes {
		return api.ErrLimit
	}
	*nodes++
	if e := checkNode(n, x); e != api.OK {
		return e
	}
	for _, y := range x.Args {
		if e := checkExpr(n, y, level+1, nodes); e != api.OK {
			return e
		}
	}
	return api.OK
}

// checkNode returns the error of an expression without its arguments.
func checkNode(n int, x api.Expr) api.Errno {
	if x.Op < api.OpForm || x.Op > api.OpAbs {
		return api.ErrKind
	}
	if x.Op == api.OpForm {
		if len(x.Args) > 0 || x.Factor != "" {
			return api.ErrForm
		}
		return checkForm(n, x.Form)
	}
	if x.Form.Constant != "" || len(x.Form.Terms) > 0 || x.Factor != "" && x.Op != api.OpScale {
		return api.ErrForm
	}
	if len(x.Args) == 0 || isSingle(x.Op) && len(x.Args) > 1 {
		return api.ErrSize
	}
	if x.Op == api.OpScale {
		_, e := rational.Parse(x.Factor)
		return e
	}
	return api.OK
}

// isSingle reports whether an operation has exactly one argument.
func isSingle(op int) bool { return op == api.OpScale || op == api.OpAbs }
