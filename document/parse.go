package document

import (
	"slices"

	"dowel/api"
	"dowel/lexer"
	"dowel/margin"
	"dowel/naming"
)

// Parse returns the product with a text, or the place and the kind of the first error.
func Parse(s string) (p api.Product, line, column int, e api.Errno) {
	r := &reader{Reader: lexer.New(s), operations: operations()}
	r.readProduct()
	r.Finish()
	if line, column, e := r.Error(); e != api.OK {
		return api.Product{}, line, column, e
	}
	return r.product, 0, 0, api.OK
}

// ParseExpr returns the expression of some dimensions with a text, or the place and the kind of the first error.
func ParseExpr(dimensions []api.Dimension, s string) (x api.Expr, line, column int, e api.Errno) {
	if e := checkNames(dimensions); e != api.OK {
		return api.Expr{}, 0, 0, e
	}
	r := &reader{Reader: lexer.New(s), operations: operations()}
	r.product.Dimensions = dimensions
	x = r.expr(1)
	r.Finish()
	if line, column, e := r.Error(); e != api.OK {
		return api.Expr{}, line, column, e
	}
	return x, 0, 0, api.OK
}

// operations returns the operations by their words.
func operations() map[string]int {
	l := map[string]int{}
	for op, word := range words() {
		if op != api.OpForm {
			l[word] = op
		}
	}
	return l
}

// reader takes statements from tokens. When it has failed its tokens have come to an end, and what it returns then is of no use.
type reader struct {
	*lexer.Reader
	operations map[string]int
	product    api.Product
	nodes      int // how many expressions of a gap have been read
}

func (r *reader) readProduct() {
	r.Expect("product")
	r.product.Name = r.name(nil)
	r.Expect(";")
	for r.begins("part", len(r.product.Assembly.Parts), api.MaxParts) {
		r.readPart()
	}
	for r.begins("instance", len(r.product.Assembly.Instances), api.MaxInstances) {
		r.readInstance()
	}
	for r.begins("dimension", len(r.product.Dimensions), api.MaxDimensions) {
		r.readDimension()
	}
	for r.begins("constraint", len(r.product.Constraints), api.MaxRequirements) {
		r.readConstraint()
	}
	for r.begins("require", len(r.product.Requirements), api.MaxRequirements) {
		r.readRequirement()
	}
}

// begins reports whether something begins with a word or a symbol, and takes it; it fails there if there are as many before as permitted.
func (r *reader) begins(text string, before, most int) bool {
	if r.Is(text) && before == most {
		r.Fail(api.ErrLimit)
	}
	return r.Take(text)
}

// name takes a name, unless a function says that it cannot stand there.
func (r *reader) name(check func(name string) api.Errno) string {
	t := r.Peek()
	switch {
	case t.Kind != lexer.Word && t.Kind != lexer.String:
		r.Fail(api.ErrSyntax)
	case !naming.Is(t.Text):
		r.Fail(api.ErrName)
	case check != nil:
		r.Fail(check(t.Text))
	}
	return r.Next().Text
}

// newName takes a name that stands nowhere in a list.
func newName[T any](r *reader, l []T, nameOf func(T) string) string {
	return r.name(func(name string) api.Errno {
		if slices.ContainsFunc(l, func(x T) bool { return nameOf(x) == name }) {
			return api.ErrDuplicate
		}
		return api.OK
	})
}

func partName(p api.Part) string { return p.Name }

func (r *reader) readPart() {
	parts := r.product.Assembly.Parts
	p := api.Part{Name: newName(r, parts, partName)}
	r.Expect("density")
	p.Density = r.Int(1, api.MaxSmall)
	r.Expect("{")
	for r.begins("cell", len(p.Cells), api.MaxCells) {
		p.Cells = append(p.Cells, r.cell())
	}
	r.Expect("}")
	r.product.Assembly.Parts = append(parts, p)
}

// cell takes a cell behind its word.
func (r *reader) cell() api.Cell {
	var c api.Cell
	for r.begins("(", len(c.Vertices), api.MaxVertices) {
		var v api.Vector
		r.list(v[:], api.MaxCoord)
		c.Vertices = append(c.Vertices, v)
	}
	r.Expect(";")
	return c
}

// list takes integers behind a parenthesis, and the other parenthesis.
func (r *reader) list(l []int, most int) {
	for i := range l {
		if i > 0 {
			r.Expect(",")
		}
		l[i] = r.Int(-most, most)
	}
	r.Expect(")")
}

func (r *reader) readInstance() {
	instances := r.product.Assembly.Instances
	i := api.Instance{Name: newName(r, instances, func(i api.Instance) string { return i.Name })}
	r.Expect("of")
	i.Part = r.name(func(name string) api.Errno {
		if !slices.ContainsFunc(r.product.Assembly.Parts, func(p api.Part) bool { return p.Name == name }) {
			return api.ErrUnknown
		}
		return api.OK
	})
	r.Expect("turn")
	r.Expect("(")
	r.list(i.Place.Turn[:], api.MaxTurn)
	r.Expect("shift")
	for k, symbol := range []string{"(", ",", ","} {
		r.Expect(symbol)
		i.Place.Shift[k] = r.number()
	}
	r.Expect(")")
	r.Expect(";")
	r.product.Assembly.Instances = append(instances, i)
}

// number takes a rational number with its sign. A token has only as many bytes as a number, so that the sign can make it too long.
func (r *reader) number() api.Number {
	n := r.Number()
	if len(n) > api.MaxNumber {
		r.Fail(api.ErrLong)
	}
	return n
}

func (r *reader) readDimension() {
	d := api.Dimension{Name: newName(r, r.product.Dimensions, dimensionName)}
	r.Expect("=")
	d.Nominal = r.Int(-api.MaxLength, api.MaxLength)
	r.Expect("[")
	d.Lower = r.Int(-api.MaxLength, api.MaxLength)
	r.Expect(",")
	d.Upper = r.Int(-api.MaxLength, api.MaxLength)
	r.Expect("]")
	r.end(d.Lower > d.Upper)
	r.product.Dimensions = append(r.product.Dimensions, d)
}

func dimensionName(d api.Dimension) string { return d.Name }

// end takes the semicolon behind bounds.
func (r *reader) end(areReversed bool) {
	if r.Is(";") && areReversed {
		r.Fail(api.ErrOrder)
	}
	r.Expect(";")
}

func (r *reader) readConstraint() {
	c := api.Constraint{Name: newName(r, r.product.Constraints, func(c api.Constraint) string { return c.Name })}
	r.Expect(":")
	r.Expect("[")
	c.Form = r.form()
	r.Expect("<=")
	if t := r.Peek(); t.Kind != lexer.Number || t.Text != "0" {
		r.Fail(api.ErrSyntax)
	}
	r.Next()
	r.Expect(";")
	r.product.Constraints = append(r.product.Constraints, c)
}

func (r *reader) readRequirement() {
	q := api.Requirement{Name: newName(r, r.product.Requirements, func(q api.Requirement) string { return q.Name })}
	r.Expect(":")
	r.nodes = 0
	q.Gap = r.expr(1)
	if r.Take("from") {
		q.Low = r.number()
	}
	if r.Take("to") {
		q.High = r.number()
	}
	r.end(margin.Check(q.Low, q.High) == api.ErrOrder)
	r.product.Requirements = append(r.product.Requirements, q)
}

// form takes a form behind its bracket.
func (r *reader) form() api.Form {
	f := api.Form{Constant: r.number()}
	for r.Is("+") || r.Is("-") {
		if len(f.Terms) == api.MaxTerms {
			r.Fail(api.ErrLimit)
		}
		sign := r.Next().Text
		f.Terms = append(f.Terms, r.term(sign, f.Terms))
	}
	r.Expect("]")
	return f
}

// term takes a term behind its sign and behind other terms.
func (r *reader) term(sign string, before []api.Term) api.Term {
	if r.Peek().Kind != lexer.Number {
		r.Fail(api.ErrSyntax)
	}
	factor := r.number()
	isZero := factor == "0"
	if sign == "-" {
		factor = "-" + factor
	}
	if len(factor) > api.MaxNumber {
		r.Fail(api.ErrLong)
	}
	if r.Is("*") && isZero {
		r.Fail(api.ErrZero)
	}
	r.Expect("*")
	return api.Term{Dimension: r.dimension(before), Factor: factor}
}

// dimension takes the name of a dimension that comes behind those of other terms.
func (r *reader) dimension(before []api.Term) int {
	index := -1
	r.name(func(name string) api.Errno {
		index = slices.IndexFunc(r.product.Dimensions, func(d api.Dimension) bool { return d.Name == name })
		if index < 0 {
			return api.ErrUnknown
		}
		if len(before) > 0 && before[len(before)-1].Dimension >= index {
			return api.ErrOrder
		}
		return api.OK
	})
	return index
}

// expr takes an expression on a level.
func (r *reader) expr(level int) api.Expr {
	op, isWord := r.operations[r.Peek().Text]
	isWord = isWord && r.Peek().Kind == lexer.Word
	switch {
	case !isWord && !r.Is("["):
		r.Fail(api.ErrSyntax)
	case level > MaxDepth:
		r.Fail(api.ErrDepth)
	case r.nodes == MaxNodes:
		r.Fail(api.ErrLimit)
	}
	r.nodes++
	if r.Take("[") {
		return api.Expr{Op: api.OpForm, Form: r.form()}
	}
	if r.Next().Kind != lexer.Word {
		return api.Expr{}
	}
	x := api.Expr{Op: op}
	if op == api.OpScale {
		x.Factor = r.number()
	}
	x.Args = r.arguments(op, level)
	return x
}

// arguments takes the arguments of an operation in their parentheses.
func (r *reader) arguments(op, level int) []api.Expr {
	r.Expect("(")
	l := []api.Expr{r.expr(level + 1)}
	for !isSingle(op) && r.Take(",") {
		l = append(l, r.expr(level+1))
	}
	r.Expect(")")
	return l
}
