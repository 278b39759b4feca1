package document

import (
	"strconv"
	"strings"

	"dowel/api"
	"dowel/label"
	"dowel/naming"
)

// Print returns the text of a product.
func Print(p api.Product) (string, api.Errno) {
	if e := Check(p); e != api.OK {
		return "", e
	}
	w := &writer{dimensions: p.Dimensions}
	w.add("product ", label.Text(p.Name), ";\n")
	for _, part := range p.Assembly.Parts {
		w.part(part)
	}
	for _, i := range p.Assembly.Instances {
		w.add("instance ", label.Text(i.Name), " of ", label.Text(i.Part), " turn ", vectorText(i.Place.Turn[:]))
		shift := i.Place.Shift
		w.add(" shift (", string(shift[0]), ", ", string(shift[1]), ", ", string(shift[2]), ");\n")
	}
	for _, d := range p.Dimensions {
		w.add("dimension ", label.Text(d.Name), " = ", strconv.Itoa(d.Nominal), " [", strconv.Itoa(d.Lower), ", ", strconv.Itoa(d.Upper), "];\n")
	}
	for _, c := range p.Constraints {
		w.add("constraint ", label.Text(c.Name), ": ")
		w.form(c.Form)
		w.add(" <= 0;\n")
	}
	for _, r := range p.Requirements {
		w.requirement(r)
	}
	return w.text()
}

// PrintExpr returns the text of an expression of some dimensions.
func PrintExpr(dimensions []api.Dimension, x api.Expr) (string, api.Errno) {
	if e := checkNames(dimensions); e != api.OK {
		return "", e
	}
	if e := CheckExpr(dimensions, x); e != api.OK {
		return "", e
	}
	w := &writer{dimensions: dimensions}
	w.expr(x)
	return w.text()
}

// checkNames returns the error of dimensions whose names do not tell them apart.
func checkNames(dimensions []api.Dimension) api.Errno {
	if len(dimensions) > api.MaxDimensions {
		return api.ErrLimit
	}
	for _, d := range dimensions {
		if !naming.Is(d.Name) {
			return api.ErrName
		}
	}
	earlier := naming.Set{}
	for _, d := range dimensions {
		if e := earlier.Add(d.Name); e != api.OK {
			return e
		}
	}
	return api.OK
}

// vectorText returns integers in parentheses.
func vectorText(l []int) string {
	words := make([]string, len(l))
	for i, n := range l {
		words[i] = strconv.Itoa(n)
	}
	return "(" + strings.Join(words, ", ") + ")"
}

// writer puts together the text of what is well-formed.
type writer struct {
	strings.Builder
	dimensions []api.Dimension
}

func (w *writer) add(words ...string) {
	for _, s := range words {
		w.WriteString(s)
	}
}

// text returns the text, unless it is too long to be read.
func (w *writer) text() (string, api.Errno) {
	if w.Len() > api.MaxBytes {
		return "", api.ErrLong
	}
	return w.String(), api.OK
}

func (w *writer) part(part api.Part) {
	w.add("part ", label.Text(part.Name), " density ", strconv.Itoa(part.Density), " {\n")
	for _, c := range part.Cells {
		w.add("  cell")
		for _, v := range c.Vertices {
			w.add(" ", vectorText(v[:]))
		}
		w.add(";\n")
	}
	w.add("}\n")
}

func (w *writer) requirement(r api.Requirement) {
	w.add("require ", label.Text(r.Name), ": ")
	w.expr(r.Gap)
	if r.Low != "" {
		w.add(" from ", string(r.Low))
	}
	if r.High != "" {
		w.add(" to ", string(r.High))
	}
	w.add(";\n")
}

func (w *writer) form(f api.Form) {
	w.add("[", string(f.Constant))
	for _, t := range f.Terms {
		sign, size := " + ", string(t.Factor)
		if size[0] == '-' {
			sign, size = " - ", size[1:]
		}
		w.add(sign, size, " * ", label.Text(w.dimensions[t.Dimension].Name))
	}
	w.add("]")
}

func (w *writer) expr(x api.Expr) {
	if x.Op == api.OpForm {
		w.form(x.Form)
		return
	}
	w.add(words()[x.Op])
	if x.Op == api.OpScale {
		w.add(" ", string(x.Factor), " ")
	}
	for i, y := range x.Args {
		if i == 0 {
			w.add("(")
		} else {
			w.add(", ")
		}
		w.expr(y)
	}
	w.add(")")
}

// words returns the words of the operations, by their numbers; forms have none.
func words() [6]string { return [6]string{"", "add", "scale", "min", "max", "abs"} }
