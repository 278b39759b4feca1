// Package copies copies plain data of products, so that results share no memory with arguments. It serves the layers that change products and keep them.
package copies

import (
	"slices"

	"dowel/api"
)

// each returns a list of copies.
func each[T any](l []T, one func(T) T) []T {
	var made []T
	for _, x := range l {
		made = append(made, one(x))
	}
	return made
}

// Part returns a copy of a part.
func Part(p api.Part) api.Part {
	p.Cells = each(p.Cells, func(c api.Cell) api.Cell { return api.Cell{Vertices: slices.Clone(c.Vertices)} })
	return p
}

// Assembly returns a copy of an assembly.
func Assembly(a api.Assembly) api.Assembly {
	return api.Assembly{Parts: each(a.Parts, Part), Instances: slices.Clone(a.Instances)}
}

// Form returns a copy of a form.
func Form(f api.Form) api.Form {
	f.Terms = slices.Clone(f.Terms)
	return f
}

// Expr returns a copy of an expression.
func Expr(x api.Expr) api.Expr {
	x.Form = Form(x.Form)
	x.Args = each(x.Args, Expr)
	return x
}

// Constraint returns a copy of a constraint.
func Constraint(c api.Constraint) api.Constraint {
	c.Form = Form(c.Form)
	return c
}

// Requirement returns a copy of a requirement.
func Requirement(r api.Requirement) api.Requirement {
	r.Gap = Expr(r.Gap)
	return r
}

// Product returns a copy of a product.
func Product(p api.Product) api.Product {
	p.Assembly = Assembly(p.Assembly)
	p.Dimensions = slices.Clone(p.Dimensions)
	p.Constraints = each(p.Constraints, Constraint)
	p.Requirements = each(p.Requirements, Requirement)
	return p
}

// Plan returns a copy of a plan.
func Plan(p api.Plan) api.Plan {
	p.Kind.Directions = slices.Clone(p.Kind.Directions)
	p.Steps = each(p.Steps, func(s api.Step) api.Step {
		s.Moved = slices.Clone(s.Moved)
		return s
	})
	p.Splits = each(p.Splits, func(s api.Split) api.Split {
		s.Whole, s.Moved = slices.Clone(s.Whole), slices.Clone(s.Moved)
		return s
	})
	return p
}
