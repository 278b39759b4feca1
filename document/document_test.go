package document

import (
	"fmt"
	"math/rand"
	"strings"
	"testing"

	"dowel/api"
	"dowel/lexer"
)

// formed returns a form with a constant and terms, given as dimension and factor in turn.
func formed(constant string, terms ...any) api.Expr {
	x := api.Expr{Op: api.OpForm, Form: api.Form{Constant: api.Number(constant)}}
	for i := 0; i < len(terms); i += 2 {
		x.Form.Terms = append(x.Form.Terms, api.Term{Dimension: terms[i].(int), Factor: api.Number(terms[i+1].(string))})
	}
	return x
}

func op(kind int, args ...api.Expr) api.Expr { return api.Expr{Op: kind, Args: args} }

func scaleBy(factor string, x api.Expr) api.Expr {
	return api.Expr{Op: api.OpScale, Factor: api.Number(factor), Args: []api.Expr{x}}
}

func tetrahedron() api.Cell {
	return api.Cell{Vertices: []api.Vector{{0, 0, 0}, {0, 0, 5}, {0, 5, 0}, {-5, 0, 0}}}
}

// ordinary returns a product with something of everything.
func ordinary() api.Product {
	return api.Product{
		Name: "gear-box",
		Assembly: api.Assembly{
			Parts: []api.Part{{Name: "wheel", Density: 7, Cells: []api.Cell{tetrahedron(), {Vertices: []api.Vector{{1, -2, 3}}}, {}}}, {Name: "1st", Density: 1}},
			Instances: []api.Instance{
				{Name: "w1", Part: "wheel", Place: api.Placement{Turn: [4]int{1, 0, -12, 12}, Shift: api.Point{"0", "-1/2", "7"}}},
				{Name: "W", Part: "1st", Place: api.Placement{Shift: api.Point{"0", "0", "0"}}},
			},
		},
		Dimensions:  []api.Dimension{{Name: "d1", Nominal: 100, Lower: -5, Upper: 5}, {Name: "d2", Nominal: -20, Lower: 0, Upper: 0}, {Name: `a"b\`, Nominal: 1, Lower: 1, Upper: 2}},
		Constraints: []api.Constraint{{Name: "c", Form: formed("10", 0, "2", 1, "-1/2").Form}, {Name: "c2", Form: formed("-1").Form}},
		Requirements: []api.Requirement{
			{Name: "gap", Gap: scaleBy("-2", op(api.OpMin, formed("1", 0, "1"), op(api.OpAbs, formed("0", 2, "-1")))), Low: "-1/2", High: "7"},
			{Name: "gap2", Gap: formed("0"), Low: "3"},
			{Name: "gap3", Gap: op(api.OpMax, op(api.OpAdd, formed("1"), formed("2"))), High: "-3"},
			{Name: "gap4", Gap: scaleBy("0", formed("1")), Low: "3", High: "3"},
			{Name: "gap5", Gap: op(api.OpAdd, formed("1"))},
		},
	}
}

const ordinaryText = `product gear-box;
part wheel density 7 {
  cell (0, 0, 0) (0, 0, 5) (0, 5, 0) (-5, 0, 0);
  cell (1, -2, 3);
  cell;
}
part "1st" density 1 {
}
instance w1 of wheel turn (1, 0, -12, 12) shift (0, -1/2, 7);
instance "W" of "1st" turn (0, 0, 0, 0) shift (0, 0, 0);
dimension d1 = 100 [-5, 5];
dimension d2 = -20 [0, 0];
dimension "a\"b\\" = 1 [1, 2];
constraint c: [10 + 2 * d1 - 1/2 * d2] <= 0;
constraint c2: [-1] <= 0;
require gap: scale -2 (min([1 + 1 * d1], abs([0 - 1 * "a\"b\\"]))) from -1/2 to 7;
require gap2: [0] from 3;
require gap3: max(add([1], [2])) to -3;
require gap4: scale 0 ([1]) from 3 to 3;
require gap5: add([1]);
`

// P36.1
func TestCheck(t *testing.T) {
	if e := Check(ordinary()); e != api.OK {
		t.Fatalf("Check: %d", e)
	}
	if e := Check(api.Product{Name: "p"}); e != api.OK {
		t.Fatalf("Check: %d", e)
	}
	long := strings.Repeat("n", api.MaxName+1)
	digits := api.Number("1" + strings.Repeat("0", api.MaxNumber))
	for i, c := range []struct {
		change func(p *api.Product)
		want   api.Errno
	}{
		{func(p *api.Product) { p.Name = "" }, api.ErrName},
		{func(p *api.Product) { p.Name = "a b" }, api.ErrName},
		{func(p *api.Product) { p.Name = long }, api.ErrName},
		{func(p *api.Product) { p.Name = long[1:] }, api.OK},
		{func(p *api.Product) { p.Name = "!~" }, api.OK},
		{func(p *api.Product) { p.Name = "\x7f" }, api.ErrName},
		{func(p *api.Product) { p.Name = "ä" }, api.ErrName},
		{func(p *api.Product) { p.Name, p.Assembly.Parts = "", make([]api.Part, api.MaxParts+1) }, api.ErrName},
		{func(p *api.Product) { p.Assembly.Parts = make([]api.Part, api.MaxParts+1) }, api.ErrLimit},
		{func(p *api.Product) { p.Assembly.Parts[0].Name = "" }, api.ErrName},
		{func(p *api.Product) { p.Assembly.Parts[1].Name = "wheel" }, api.ErrDuplicate},
		{func(p *api.Product) { p.Assembly.Parts[1].Name, p.Assembly.Parts[1].Density = "wheel", 0 }, api.ErrDuplicate},
		{func(p *api.Product) { p.Assembly.Parts[0].Density = 0 }, api.ErrRange},
		{func(p *api.Product) { p.Assembly.Parts[0].Density = api.MaxSmall + 1 }, api.ErrRange},
		{func(p *api.Product) { p.Assembly.Parts[0].Density = api.MaxSmall }, api.OK},
		{func(p *api.Product) {
			p.Assembly.Parts[0].Density, p.Assembly.Parts[0].Cells = 0, make([]api.Cell, api.MaxCells+1)
		}, api.ErrRange},
		{func(p *api.Product) { p.Assembly.Parts[0].Cells = make([]api.Cell, api.MaxCells+1) }, api.ErrLimit},
		{func(p *api.Product) { p.Assembly.Parts[0].Cells = make([]api.Cell, api.MaxCells) }, api.OK},
		{func(p *api.Product) {
			p.Assembly.Parts[0].Cells[0].Vertices = make([]api.Vector, api.MaxVertices+1)
		}, api.ErrLimit},
		{func(p *api.Product) { p.Assembly.Parts[0].Cells[0].Vertices = make([]api.Vector, api.MaxVertices) }, api.OK},
		{func(p *api.Product) { p.Assembly.Parts[0].Cells[0].Vertices[3][2] = api.MaxCoord + 1 }, api.ErrRange},
		{func(p *api.Product) { p.Assembly.Parts[0].Cells[0].Vertices[3][2] = -api.MaxCoord }, api.OK},
		{func(p *api.Product) { p.Assembly.Instances = make([]api.Instance, api.MaxInstances+1) }, api.ErrLimit},
		{func(p *api.Product) { p.Assembly.Instances[1].Name = "" }, api.ErrName},
		{func(p *api.Product) { p.Assembly.Instances[1].Name, p.Assembly.Instances[1].Part = "w1", "x" }, api.ErrDuplicate},
		{func(p *api.Product) { p.Assembly.Instances[1].Part, p.Assembly.Instances[1].Place.Turn[0] = "x", 13 }, api.ErrUnknown},
		{func(p *api.Product) { p.Assembly.Instances[1].Place.Turn[3] = -13 }, api.ErrRange},
		{func(p *api.Product) {
			p.Assembly.Instances[1].Place.Turn[3], p.Assembly.Instances[1].Place.Shift[0] = -13, ""
		}, api.ErrRange},
		{func(p *api.Product) { p.Assembly.Instances[1].Place.Shift[2] = "2/4" }, api.ErrForm},
		{func(p *api.Product) { p.Assembly.Instances[1].Place.Shift[2] = digits }, api.ErrLong},
		{func(p *api.Product) { p.Assembly.Instances[1].Place.Shift = api.Point{"0", "", "1/0"} }, api.ErrSyntax},
		{func(p *api.Product) { p.Dimensions = make([]api.Dimension, api.MaxDimensions+1) }, api.ErrLimit},
		{func(p *api.Product) { p.Dimensions[0].Name = "a b" }, api.ErrName},
		{func(p *api.Product) { p.Dimensions[1].Name, p.Dimensions[1].Lower = "d1", 5 }, api.ErrDuplicate},
		{func(p *api.Product) { p.Dimensions[1].Nominal = api.MaxLength + 1 }, api.ErrRange},
		{func(p *api.Product) { p.Dimensions[1].Lower = -api.MaxLength - 1 }, api.ErrRange},
		{func(p *api.Product) { p.Dimensions[1].Upper = api.MaxLength + 1 }, api.ErrRange},
		{func(p *api.Product) { p.Dimensions[1].Lower, p.Dimensions[1].Upper = api.MaxLength+1, 0 }, api.ErrRange},
		{func(p *api.Product) { p.Dimensions[1].Lower = 1 }, api.ErrOrder},
		{func(p *api.Product) {
			p.Dimensions[1] = api.Dimension{Name: "x", Nominal: -api.MaxLength, Lower: -api.MaxLength, Upper: api.MaxLength}
		}, api.OK},
		{func(p *api.Product) { p.Constraints = make([]api.Constraint, api.MaxRequirements+1) }, api.ErrLimit},
		{func(p *api.Product) { p.Constraints[0].Name = "" }, api.ErrName},
		{func(p *api.Product) { p.Constraints[1].Name, p.Constraints[1].Form.Constant = "c", "" }, api.ErrDuplicate},
		{func(p *api.Product) { p.Constraints[1].Form.Constant = "-0" }, api.ErrForm},
		{func(p *api.Product) {
			p.Constraints[1].Form = api.Form{Constant: "", Terms: make([]api.Term, api.MaxTerms+1)}
		}, api.ErrSyntax},
		{func(p *api.Product) {
			p.Constraints[1].Form = api.Form{Constant: "0", Terms: make([]api.Term, api.MaxTerms+1)}
		}, api.ErrLimit},
		{func(p *api.Product) { p.Constraints[1].Form = formed("0", -1, "").Form }, api.ErrNotFound},
		{func(p *api.Product) { p.Constraints[1].Form = formed("0", 3, "1").Form }, api.ErrNotFound},
		{func(p *api.Product) { p.Constraints[1].Form = formed("0", 1, "1", 3, "1").Form }, api.ErrNotFound},
		{func(p *api.Product) { p.Constraints[1].Form = formed("0", 1, "1", 1, "x").Form }, api.ErrOrder},
		{func(p *api.Product) { p.Constraints[1].Form = formed("0", 2, "1", 1, "1").Form }, api.ErrOrder},
		{func(p *api.Product) { p.Constraints[1].Form = formed("0", 1, "x").Form }, api.ErrSyntax},
		{func(p *api.Product) { p.Constraints[1].Form = formed("0", 1, "0").Form }, api.ErrZero},
		{func(p *api.Product) { p.Constraints[1].Form = formed("0", 1, "-0").Form }, api.ErrForm},
		{func(p *api.Product) { p.Requirements = make([]api.Requirement, api.MaxRequirements+1) }, api.ErrLimit},
		{func(p *api.Product) { p.Requirements[0].Name = "" }, api.ErrName},
		{func(p *api.Product) { p.Requirements[1].Name, p.Requirements[1].Gap.Op = "gap", 6 }, api.ErrDuplicate},
		{func(p *api.Product) { p.Requirements[1].Gap.Op, p.Requirements[1].Low = 6, "x" }, api.ErrKind},
		{func(p *api.Product) { p.Requirements[1].Low, p.Requirements[1].High = "x", digits }, api.ErrSyntax},
		{func(p *api.Product) { p.Requirements[1].High = digits }, api.ErrLong},
		{func(p *api.Product) { p.Requirements[1].High = "29/10" }, api.ErrOrder},
		{func(p *api.Product) { p.Requirements[1].High = "3" }, api.OK},
		{func(p *api.Product) { p.Requirements = append(p.Requirements, p.Requirements[0]) }, api.ErrDuplicate},
		// Names of different kinds of things can be the same.
		{func(p *api.Product) { p.Requirements[0].Name, p.Constraints[0].Name = "d1", "d1" }, api.OK},
	} {
		p := ordinary()
		c.change(&p)
		if e := Check(p); e != c.want {
			t.Errorf("%d: Check = %d, not %d", i, e, c.want)
		}
		if text, e := Print(p); e != c.want || (e != api.OK) != (text == "") {
			t.Errorf("%d: Print = %q, %d", i, text, e)
		}
	}
}

// deep returns an expression with some levels.
func deep(levels int) api.Expr {
	x := formed("1")
	for range levels - 1 {
		x = op(api.OpAbs, x)
	}
	return x
}

// wide returns an expression with some nodes on two levels.
func wide(nodes int) api.Expr {
	x := api.Expr{Op: api.OpMax}
	for range nodes - 1 {
		x.Args = append(x.Args, formed("1"))
	}
	return x
}

// P36.1
func TestCheckExpr(t *testing.T) {
	dimensions := []api.Dimension{{Name: "a b"}, {Name: "a b", Lower: 1}}
	bad := formed("x")
	for i, c := range []struct {
		x    api.Expr
		want api.Errno
	}{
		{formed("1", 0, "1", 1, "-2/3"), api.OK}, {formed("1", 2, "1"), api.ErrNotFound}, {deep(MaxDepth), api.OK}, {deep(MaxDepth + 1), api.ErrDepth}, {wide(MaxNodes), api.OK}, {wide(MaxNodes + 1), api.ErrLimit},
		{op(api.OpAdd, wide(MaxNodes-1)), api.OK}, {op(api.OpAdd, wide(MaxNodes)), api.ErrLimit}, {op(api.OpAdd, bad, deep(MaxDepth)), api.ErrSyntax}, {op(api.OpAdd, deep(MaxDepth), bad), api.ErrDepth}, {op(api.OpAdd, wide(MaxNodes), bad), api.ErrLimit},
		{op(api.OpAdd, op(api.OpAdd, append(wide(MaxNodes-8).Args, deep(7))...)), api.ErrDepth},
		{op(api.OpAdd, op(api.OpAdd, append(wide(MaxNodes).Args, deep(8))...)), api.ErrLimit},
		{op(-1), api.ErrKind}, {op(6, bad), api.ErrKind}, {op(api.OpForm, formed("1")), api.ErrForm}, {api.Expr{Factor: "1", Form: api.Form{Constant: "x"}}, api.ErrForm}, {api.Expr{}, api.ErrSyntax},
		{api.Expr{Op: api.OpAdd, Form: api.Form{Constant: "1"}, Args: []api.Expr{formed("1")}}, api.ErrForm}, {api.Expr{Op: api.OpAbs, Form: formed("", 0, "1").Form}, api.ErrForm}, {api.Expr{Op: api.OpMin, Factor: "1"}, api.ErrForm}, {api.Expr{Op: api.OpAbs, Factor: "1", Args: []api.Expr{formed("1")}}, api.ErrForm}, {api.Expr{Op: api.OpScale, Factor: "x"}, api.ErrSize},
		{op(api.OpAdd), api.ErrSize}, {op(api.OpMin), api.ErrSize}, {op(api.OpMax), api.ErrSize}, {op(api.OpAbs), api.ErrSize}, {op(api.OpAbs, formed("1"), formed("1")), api.ErrSize}, {api.Expr{Op: api.OpScale, Factor: "x", Args: []api.Expr{bad, bad}}, api.ErrSize},
		{scaleBy("", bad), api.ErrSyntax}, {scaleBy("2/4", formed("1")), api.ErrForm}, {scaleBy("0", formed("1")), api.OK}, {scaleBy("0", bad), api.ErrSyntax}, {op(api.OpMin, formed("1"), formed("01")), api.ErrForm},
	} {
		if e := CheckExpr(dimensions, c.x); e != c.want {
			t.Errorf("%d: CheckExpr = %d, not %d", i, e, c.want)
		}
		good := []api.Dimension{{Name: "a"}, {Name: "b", Lower: 1}}
		text, e := PrintExpr(good, c.x)
		if e != c.want || (e != api.OK) != (text == "") {
			t.Errorf("%d: PrintExpr = %q, %d", i, text, e)
		}
	}
	if e := CheckExpr(make([]api.Dimension, 100), formed("1", 99, "1")); e != api.OK {
		t.Errorf("CheckExpr = %d", e)
	}
}

// P36.2
func TestPrint(t *testing.T) {
	if text, e := Print(ordinary()); text != ordinaryText || e != api.OK {
		t.Errorf("Print = %s, %d", text, e)
	}
	if text, e := Print(api.Product{Name: "p"}); text != "product p;\n" || e != api.OK {
		t.Errorf("Print = %q, %d", text, e)
	}
	for name, want := range map[string]string{"a-1": "a-1", "1a": `"1a"`, "A": `"A"`, "a#b": `"a#b"`, "a.b": `"a.b"`, "min": "min", "a\"": `"a\""`, "12": `"12"`, "[": `"["`, "#": `"#"`} {
		if text, e := Print(api.Product{Name: name}); text != "product "+want+";\n" || e != api.OK {
			t.Errorf("Print = %q, %d", text, e)
		}
	}
	p := api.Product{Name: "p", Dimensions: []api.Dimension{{Name: "a"}}}
	number := api.Number(strings.Repeat("1", api.MaxNumber))
	for i := range api.MaxRequirements {
		name := fmt.Sprint("r", i)
		p.Requirements = append(p.Requirements, api.Requirement{Name: name, Gap: scaleBy(string(number), formed(string(number))), Low: "0"})
		p.Constraints = append(p.Constraints, api.Constraint{Name: name, Form: formed("1").Form})
	}
	text, e := Print(p)
	if e != api.OK {
		t.Fatalf("Print: %d", e)
	}
	// A text of exactly api.MaxBytes bytes is not too long.
	for i := 0; len(text) < api.MaxBytes; i++ {
		before := p
		room := min(api.MaxNumber, api.MaxBytes-len(text)+1)
		p.Constraints[i].Form.Constant = number[:room]
		if text, e = Print(p); e != api.OK {
			t.Fatalf("Print: %d for %d", e, len(before.Constraints))
		}
	}
	if again, _, _, e := Parse(text); e != api.OK || !Equal(again, p) {
		t.Errorf("Parse: %d", e)
	}
	p.Name = "pq"
	if text, e := Print(p); text != "" || e != api.ErrLong {
		t.Errorf("Print: %d bytes, %d", len(text), e)
	}
}

// P36.2
func TestPrintExpr(t *testing.T) {
	dimensions := []api.Dimension{{Name: "a"}, {Name: "B"}}
	for want, x := range map[string]api.Expr{
		"max([0 + 1 * a], [5])":                             op(api.OpMax, formed("0", 0, "1"), formed("5")),
		`[10 + 2 * a - 1/2 * "B"]`:                          formed("10", 0, "2", 1, "-1/2"),
		"scale -2 (min([1 + 1 * a], abs([0 - 1 * a])))":     scaleBy("-2", op(api.OpMin, formed("1", 0, "1"), op(api.OpAbs, formed("0", 0, "-1")))),
		"add([-1/3], [0], [7])":                             op(api.OpAdd, formed("-1/3"), formed("0"), formed("7")),
		"scale 0 (scale 1/2 (abs(max([0 - 7/2 * \"B\"]))))": scaleBy("0", scaleBy("1/2", op(api.OpAbs, op(api.OpMax, formed("0", 1, "-7/2"))))),
	} {
		if text, e := PrintExpr(dimensions, x); text != want || e != api.OK {
			t.Errorf("PrintExpr = %s, %d", text, e)
		}
		if y, line, column, e := ParseExpr(dimensions, want); !EqualExpr(x, y) || line != 0 || column != 0 || e != api.OK {
			t.Errorf("ParseExpr of %s: %v, %d, %d, %d", want, y, line, column, e)
		}
	}
	many := make([]api.Dimension, api.MaxDimensions)
	for i := range many {
		many[i].Name = fmt.Sprint("d", i)
	}
	bad := formed("x")
	for i, c := range []struct {
		dimensions []api.Dimension
		x          api.Expr
		want       api.Errno
	}{
		{append(many, api.Dimension{}), bad, api.ErrLimit}, {append(many[:1:1], many[0], api.Dimension{Name: "a b"}), bad, api.ErrName}, {append(many[:1:1], many[0]), bad, api.ErrDuplicate}, {many, bad, api.ErrSyntax}, {[]api.Dimension{{Name: "a", Lower: 2, Upper: 1, Nominal: api.MaxLength + 1}}, formed("1", 0, "1"), api.OK}, {many, formed("1", 63, "1"), api.OK}, {nil, formed("1"), api.OK},
	} {
		text, e := PrintExpr(c.dimensions, c.x)
		if e != c.want || (e != api.OK) != (text == "") {
			t.Errorf("%d: PrintExpr = %q, %d", i, text, e)
		}
	}
	x := wide(MaxNodes)
	for i := range x.Args {
		x.Args[i].Form.Constant = api.Number(strings.Repeat("1", api.MaxNumber))
		for d := range 10 {
			x.Args[i].Form.Terms = append(x.Args[i].Form.Terms, api.Term{Dimension: d, Factor: x.Args[i].Form.Constant})
		}
	}
	if text, e := PrintExpr(many, x); text != "" || e != api.ErrLong {
		t.Errorf("PrintExpr: %d bytes, %d", len(text), e)
	}
}

// P36.3
func TestParse(t *testing.T) {
	p, line, column, e := Parse(ordinaryText)
	if !Equal(p, ordinary()) || line != 0 || column != 0 || e != api.OK {
		t.Errorf("Parse = %v, %d, %d, %d", p, line, column, e)
	}
	// Names can be strings, and blanks, line feeds and comments stand anywhere.
	p, _, _, e = Parse("# a product\nproduct\"p\";part \"q\" density\n1{cell(1,2,- 3);}instance i of \"q\"turn(1,0,0,0)shift(-\n1/2,0,0);dimension \"d\"=-5[-1,1];constraint c:[-1+2*d]<=0;require\nr:min([1-1/2*\"d\"],abs([0]))from - 1 to 2;#end")
	want := api.Product{
		Name:         "p",
		Assembly:     api.Assembly{Parts: []api.Part{{Name: "q", Density: 1, Cells: []api.Cell{{Vertices: []api.Vector{{1, 2, -3}}}}}}, Instances: []api.Instance{{Name: "i", Part: "q", Place: api.Placement{Turn: [4]int{1}, Shift: api.Point{"-1/2", "0", "0"}}}}},
		Dimensions:   []api.Dimension{{Name: "d", Nominal: -5, Lower: -1, Upper: 1}},
		Constraints:  []api.Constraint{{Name: "c", Form: formed("-1", 0, "2").Form}},
		Requirements: []api.Requirement{{Name: "r", Gap: op(api.OpMin, formed("1", 0, "-1/2"), op(api.OpAbs, formed("0"))), Low: "-1", High: "2"}},
	}
	if !Equal(p, want) || e != api.OK {
		t.Errorf("Parse = %v, %d", p, e)
	}
}

// wrong is a text in which @ stands before the token of the error.
type wrong struct {
	text string
	e    api.Errno
}

// place returns the text without the @, and its place.
func (w wrong) place() (text string, line, column int) {
	before, behind, _ := strings.Cut(w.text, "@")
	line = 1 + strings.Count(before, "\n")
	column = len(before) - strings.LastIndex(before, "\n")
	return before + behind, line, column
}

// P36.3
func TestErrorsOfParse(t *testing.T) {
	nines := strings.Repeat("9", api.MaxNumber)
	head := "product p;\npart q density 1 {}\ndimension a = 1 [0, 0]; dimension b = 2 [0, 0];\n"
	instance := "product p; part q density 1 {} instance i of q turn (1, 0, 0, 0) shift (0, 0, 0);\n"
	parts := ""
	for i := range api.MaxParts {
		parts += fmt.Sprintf("part p%d density 1 {}\n", i)
	}
	instances := ""
	for i := range api.MaxInstances {
		instances += fmt.Sprintf("instance i%d of q turn (1, 0, 0, 0) shift (0, 0, 0);\n", i)
	}
	dimensions, constraints, requirements, terms := "", "", "", ""
	for i := range 64 {
		dimensions += fmt.Sprintf("dimension d%d = 1 [0, 0];\n", i)
		constraints += fmt.Sprintf("constraint c%d: [1] <= 0;\n", i)
		requirements += fmt.Sprintf("require r%d: [1];\n", i)
		terms += fmt.Sprintf(" + 1 * d%d", i)
	}
	for _, c := range []wrong{
		{"@", api.ErrSyntax}, {"@part", api.ErrSyntax}, {`@"product" p;`, api.ErrSyntax}, {"product @;", api.ErrSyntax}, {"product @7;", api.ErrSyntax}, {`product @"";`, api.ErrName}, {`product @"a b"`, api.ErrName}, {`product @"` + strings.Repeat("n", 41) + `";`, api.ErrName}, {`product "` + strings.Repeat("n", 40) + `"@`, api.ErrSyntax}, {"product p @", api.ErrSyntax}, {"product p; @x", api.ErrSyntax}, {"product p; @;", api.ErrSyntax}, {"product p @part q", api.ErrSyntax}, {"product p; \n @?", api.ErrSyntax}, {"product @007;", api.ErrForm}, {"product p; @\"", api.ErrTruncated}, {"product p; @product p;", api.ErrSyntax},
		{"product p; part @{", api.ErrSyntax}, {`product p; part @"a b" {`, api.ErrName}, {"product p; part q @{", api.ErrSyntax}, {"product p; part q density @{", api.ErrSyntax}, {"product p; part q density @0 {", api.ErrRange}, {"product p; part q density @-1 {", api.ErrRange}, {"product p; part q density -@0 {", api.ErrForm}, {"product p; part q density -@a {", api.ErrSyntax}, {"product p; part q density @1/2 {", api.ErrRange}, {"product p; part q density @1048577 {", api.ErrRange}, {"product p; part q density 1048576 @;", api.ErrSyntax}, {"product p; part q density 1 {} part @q density 0 {}", api.ErrDuplicate}, {"product p; part q density 1 {} part @\"q\" density 0 {}", api.ErrDuplicate}, {"product p; part q density 1 { @(0, 0, 0)", api.ErrSyntax}, {"product p; part q density 1 { cell @}", api.ErrSyntax}, {"product p; part q density 1 { cell; @;", api.ErrSyntax}, {"product p; part q density 1 {cell(1,2@)", api.ErrSyntax}, {"product p; part q density 1 {cell(1,2,3@,", api.ErrSyntax}, {"product p; part q density 1 {cell(@4097,2,3", api.ErrRange}, {"product p; part q density 1 {cell(1,2,@-4097", api.ErrRange}, {"product p; part q density 1 {cell(1,2,@x", api.ErrSyntax}, {"product p; part q density 1 {cell(4096,-4096,1);}@;", api.ErrSyntax},
		{"product p; part q density 1 {cell" + strings.Repeat("(0,0,0)", 16) + " @(x", api.ErrLimit}, {"product p; part q density 1 {cell" + strings.Repeat("(0,0,0)", 16) + "@}", api.ErrSyntax}, {"product p; part q density 1 {" + strings.Repeat("cell;", 6) + " @cell x", api.ErrLimit}, {"product p;" + parts + " @part \"\"", api.ErrLimit}, {"product p;" + parts + " @cell", api.ErrSyntax},
		{head + "@instance i of q", api.ErrSyntax}, {instance + "instance @i of q", api.ErrDuplicate}, {instance + "instance @\"a b\" of q", api.ErrName}, {instance + "instance j @, of q", api.ErrSyntax}, {instance + "instance j of @x", api.ErrUnknown}, {instance + "instance j of @\"\"", api.ErrName}, {instance + "instance j of @;", api.ErrSyntax}, {instance + "instance j of q @shift", api.ErrSyntax}, {instance + "instance j of q turn (@13, 0, 0, 0)", api.ErrRange}, {instance + "instance j of q turn (12, 0, 0, @-13)", api.ErrRange}, {instance + "instance j of q turn (12, 0, 0 @)", api.ErrSyntax}, {instance + "instance j of q turn (12, 0, 0, 0 @,", api.ErrSyntax}, {instance + "instance j of q turn (1, 0, 0, 0) @turn", api.ErrSyntax}, {instance + "instance j of q turn (1, 0, 0, 0) shift (0, 0 @)", api.ErrSyntax}, {instance + "instance j of q turn (1, 0, 0, 0) shift (0, 0, @x)", api.ErrSyntax}, {instance + "instance j of q turn (1, 0, 0, 0) shift (0, 0, -@0)", api.ErrForm}, {instance + "instance j of q turn (1, 0, 0, 0) shift (-" + nines + " @x", api.ErrLong}, {instance + "instance j of q turn (1, 0, 0, 0) shift (0, 0, -" + nines + " @)", api.ErrLong}, {instance + "instance j of q turn (1, 0, 0, 0) shift (0, 0, " + nines + ") @x", api.ErrSyntax}, {instance + "instance j of q turn (1, 0, 0, 0) shift (0, 0, 0@;", api.ErrSyntax}, {"product p; part q density 1 {}" + instances + "@instance ?"[:9], api.ErrLimit}, {instance + "@part", api.ErrSyntax}, {"product p; instance i of @q", api.ErrUnknown},
		{"product p; dimension a = 10 [1, -1]@;", api.ErrOrder}, {"product p; dimension a = 10 [1, -1]@,", api.ErrSyntax}, {"product p; dimension a = @1073741825 [1, -1]", api.ErrRange}, {"product p; dimension a = 1073741824 [@-1073741825, -1]", api.ErrRange}, {"product p; dimension a = -1073741824 [-1073741824, @1073741825]", api.ErrRange}, {"product p; dimension a = @1/2", api.ErrRange}, {"product p; dimension a @1", api.ErrSyntax}, {"product p; dimension a = 1 @(", api.ErrSyntax}, {"product p; dimension a = 1 [1 @]", api.ErrSyntax}, {"product p; dimension a = 1 [1, 2 @;", api.ErrSyntax}, {"product p; dimension a = 1 [1, 2]@", api.ErrSyntax}, {head + "dimension @a = x", api.ErrDuplicate}, {head + `dimension @"a b" = x`, api.ErrName}, {"product p;" + dimensions + "@dimension x", api.ErrLimit},
		{head + "constraint c: @add([1]) <= 0;", api.ErrSyntax}, {head + "constraint c @[1]", api.ErrSyntax}, {head + "constraint c: [1] @0", api.ErrSyntax}, {head + "constraint c: [1] <= @1;", api.ErrSyntax}, {head + "constraint c: [1] <= @-0;", api.ErrSyntax}, {head + "constraint c: [1] <= @\"0\";", api.ErrSyntax}, {head + "constraint c: [1] <= 0@", api.ErrSyntax}, {head + "constraint c: [1] <= 0; constraint @c", api.ErrDuplicate}, {head + "constraint @7", api.ErrSyntax}, {head + "constraint @\"\"", api.ErrName}, {head + constraints + "@constraint \"\"", api.ErrLimit}, {head + "constraint c: [1] <= 0; @dimension", api.ErrSyntax},
		{head + "constraint c: [@a]", api.ErrSyntax}, {head + "constraint c: [@]", api.ErrSyntax}, {head + "constraint c: [-@0", api.ErrForm}, {head + "constraint c: [-" + nines + "@", api.ErrLong}, {head + "constraint c: [1 @a", api.ErrSyntax}, {head + "constraint c: [1 @* a", api.ErrSyntax}, {head + "constraint c: [1 + @a", api.ErrSyntax}, {head + "constraint c: [1 + @-1 * a", api.ErrSyntax}, {head + "constraint c: [1 - @-1 * a", api.ErrSyntax}, {head + "constraint c: [1 + 1 @a", api.ErrSyntax}, {head + "constraint c: [1 + 0 @a", api.ErrSyntax}, {head + "constraint c: [1 + 0 @* x", api.ErrZero}, {head + "constraint c: [1 - 0 @* x", api.ErrZero}, {head + "constraint c: [1 - " + nines + " @* x", api.ErrLong}, {head + "constraint c: [1 - " + nines + " @x", api.ErrLong}, {head + "constraint c: [1 + " + nines + " * @x", api.ErrUnknown}, {head + "constraint c: [1 + 1 * @q", api.ErrUnknown}, {head + "constraint c: [1 + 1 * @\"a b\"", api.ErrName}, {head + "constraint c: [1 + 1 * @7", api.ErrSyntax}, {head + "constraint c: [1 + 1 * a + 1 * @a", api.ErrOrder}, {head + "constraint c: [1 + 1 * \"b\" + 1 * @a", api.ErrOrder}, {head + "constraint c: [1 + 1 * a + 1 * b - 1 * @c", api.ErrUnknown}, {head + "constraint c: [1 + 1 * a @;", api.ErrSyntax}, {"product p;" + dimensions + "constraint c: [1" + terms + " @+ x", api.ErrLimit}, {"product p;" + dimensions + "constraint c: [1" + terms + " @- 1", api.ErrLimit}, {"product p;" + dimensions + "constraint c: [1" + terms + " @, 1", api.ErrSyntax},
		{head + "require @;", api.ErrSyntax}, {head + `require @"";`, api.ErrName}, {head + "require r: [1]; require @r", api.ErrDuplicate}, {head + "require r @[", api.ErrSyntax}, {head + requirements + "@require \"\"", api.ErrLimit}, {head + "require r: @a", api.ErrSyntax}, {head + "require r: @form", api.ErrSyntax}, {head + `require r: @"min"([1])`, api.ErrSyntax}, {head + "require r: @(", api.ErrSyntax}, {head + "require r: @", api.ErrSyntax}, {head + "require r: min @[1]", api.ErrSyntax}, {head + "require r: min(@)", api.ErrSyntax}, {head + "require r: min([1] @;", api.ErrSyntax}, {head + "require r: min([1], @)", api.ErrSyntax}, {head + "require r: abs([1]@, [1])", api.ErrSyntax}, {head + "require r: scale 1 ([1]@, [1])", api.ErrSyntax}, {head + "require r: scale @([1])", api.ErrSyntax}, {head + "require r: scale -@0 ([1])", api.ErrForm}, {head + "require r: scale -" + nines + " @[1])", api.ErrLong}, {head + "require r: abs @1 ([1])", api.ErrSyntax},
		{head + "require r: " + strings.Repeat("abs(", 8) + "@[x", api.ErrDepth}, {head + "require r: " + strings.Repeat("abs(", 8) + "@abs", api.ErrDepth}, {head + "require r: " + strings.Repeat("abs(", 8) + "@x", api.ErrSyntax}, {head + "require r: " + strings.Repeat("min(", 7) + "[1]" + strings.Repeat(")", 7) + "@x", api.ErrSyntax}, {head + "require r: min(" + strings.Repeat("[1], ", 63) + "@[1]", api.ErrLimit}, {head + "require r: min(" + strings.Repeat("[1], ", 63) + "@min(", api.ErrLimit}, {head + "require r: min(" + strings.Repeat("[1], ", 63) + "@x", api.ErrSyntax}, {head + "require r: min(" + strings.Repeat("[1], ", 62) + "[1]); require s: min(" + strings.Repeat("[1], ", 62) + "[1])@", api.ErrSyntax}, {head + "require r: min(" + strings.Repeat("[1], ", 56) + strings.Repeat("abs(", 7) + "@[1]", api.ErrDepth},
		{head + "require r: [1] from @x", api.ErrSyntax}, {head + "require r: [1] from -@0", api.ErrForm}, {head + "require r: [1] from -" + nines + " @to x", api.ErrLong}, {head + "require r: [1] to -" + nines + "@;", api.ErrLong}, {head + "require r: [1] to 1 @from 2", api.ErrSyntax}, {head + "require r: [1] from 2 to 1@;", api.ErrOrder}, {head + "require r: [1] from -1/2 to -2/3 @;", api.ErrOrder}, {head + "require r: [1] from 2 to 1 @to", api.ErrSyntax}, {head + "require r: [1] from 1 to 1; @constraint", api.ErrSyntax}, {head + "require r: [1] to 5@", api.ErrSyntax},
	} {
		text, line, column := c.place()
		p, l, k, e := Parse(text)
		if l != line || k != column || e != c.e || !Equal(p, api.Product{}) {
			t.Errorf("Parse(%.200q) = %d, %d, %d, not %d, %d, %d", text, l, k, e, line, column, c.e)
		}
		if s, l, k, e := Format(text); s != "" || l != line || k != column || e != c.e {
			t.Errorf("Format(%.200q) = %q, %d, %d, %d", text, s, l, k, e)
		}
	}
	if _, line, column, e := Parse(strings.Repeat(" ", api.MaxBytes+1)); line != 1 || column != 1 || e != api.ErrLong {
		t.Errorf("Parse = %d, %d, %d", line, column, e)
	}
}

// P36.3
func TestErrorsOfParseExpr(t *testing.T) {
	dimensions := []api.Dimension{{Name: "a"}, {Name: "B"}}
	for _, c := range []wrong{
		{"@", api.ErrSyntax}, {"[1] @;", api.ErrSyntax}, {"[1] @[1]", api.ErrSyntax}, {"[1 + 1 * @b]", api.ErrUnknown}, {"[1 + 1 * \"B\" + 1 * @a]", api.ErrOrder}, {"min([1], \n [1 + 0 @* a])", api.ErrZero}, {"[1 + @?", api.ErrSyntax}, {strings.Repeat("abs(", 8) + "@[1]", api.ErrDepth}, {"add(" + strings.Repeat("[1],", 63) + "@[1])", api.ErrLimit}, {"@from", api.ErrSyntax}, {"[1] @from 1", api.ErrSyntax},
	} {
		text, line, column := c.place()
		x, l, k, e := ParseExpr(dimensions, text)
		if l != line || k != column || e != c.e || !EqualExpr(x, api.Expr{}) {
			t.Errorf("ParseExpr(%.200q) = %d, %d, %d, not %d, %d, %d", text, l, k, e, line, column, c.e)
		}
	}
	for _, c := range []struct {
		dimensions []api.Dimension
		want       api.Errno
	}{{make([]api.Dimension, 65), api.ErrLimit}, {[]api.Dimension{{Name: "a"}, {Name: "a"}, {Name: ""}}, api.ErrName}, {[]api.Dimension{{Name: "a"}, {Name: "a"}}, api.ErrDuplicate}} {
		if x, line, column, e := ParseExpr(c.dimensions, "?"); !EqualExpr(x, api.Expr{}) || line != 0 || column != 0 || e != c.want {
			t.Errorf("ParseExpr = %d, %d, %d", line, column, e)
		}
	}
}

// P36.4
func TestFormat(t *testing.T) {
	text, line, column, e := Format("product \"p\" ; dimension a=1[0,0];# end\n")
	if text != "product p;\ndimension a = 1 [0, 0];\n" || line != 0 || column != 0 || e != api.OK {
		t.Errorf("Format = %q, %d, %d, %d", text, line, column, e)
	}
	if text, line, column, e := Format("product p;\n dimension 7"); text != "" || line != 2 || column != 12 || e != api.ErrSyntax {
		t.Errorf("Format = %q, %d, %d, %d", text, line, column, e)
	}
	// What is written without blanks can get too long with them.
	var b strings.Builder
	b.WriteString("product p;")
	for i := range api.MaxParts {
		fmt.Fprintf(&b, "part p%d density 1{", i)
		for range api.MaxCells {
			b.WriteString("cell" + strings.Repeat("(0,1,2)", api.MaxVertices) + ";")
		}
		b.WriteString("}")
	}
	if _, _, _, e := Parse(b.String()); e != api.OK {
		t.Fatalf("Parse: %d", e)
	}
	if text, line, column, e := Format(b.String()); text != "" || line != 0 || column != 0 || e != api.ErrLong {
		t.Errorf("Format: %d bytes, %d, %d, %d", len(text), line, column, e)
	}
}

// P36.4
func TestEqual(t *testing.T) {
	if !Equal(ordinary(), ordinary()) {
		t.Error("Equal of equal products")
	}
	empty := api.Product{Assembly: api.Assembly{Parts: []api.Part{}, Instances: []api.Instance{}}, Dimensions: []api.Dimension{}, Constraints: []api.Constraint{}, Requirements: []api.Requirement{}}
	if !Equal(empty, api.Product{}) {
		t.Error("Equal of nil and empty lists")
	}
	for i, change := range []func(p *api.Product){
		func(p *api.Product) { p.Name = "x" }, func(p *api.Product) { p.Assembly.Parts[0].Name = "x" }, func(p *api.Product) { p.Assembly.Parts[0].Density++ }, func(p *api.Product) { p.Assembly.Parts[0].Cells[0].Vertices[3][1]++ }, func(p *api.Product) { p.Assembly.Parts[0].Cells = p.Assembly.Parts[0].Cells[:2] }, func(p *api.Product) { p.Assembly.Parts = p.Assembly.Parts[:1] },
		func(p *api.Product) { p.Assembly.Instances[0].Name = "x" }, func(p *api.Product) { p.Assembly.Instances[0].Part = "x" }, func(p *api.Product) { p.Assembly.Instances[0].Place.Turn[3]++ }, func(p *api.Product) { p.Assembly.Instances[0].Place.Shift[2] = "8" }, func(p *api.Product) { p.Assembly.Instances = nil },
		func(p *api.Product) { p.Dimensions[0].Name = "x" }, func(p *api.Product) { p.Dimensions[0].Nominal++ }, func(p *api.Product) { p.Dimensions[0].Lower++ }, func(p *api.Product) { p.Dimensions[0].Upper++ }, func(p *api.Product) { p.Dimensions = p.Dimensions[:1] },
		func(p *api.Product) { p.Constraints[0].Name = "x" }, func(p *api.Product) { p.Constraints[0].Form.Constant = "" }, func(p *api.Product) { p.Constraints[0].Form.Terms[1].Dimension++ }, func(p *api.Product) { p.Constraints[0].Form.Terms[1].Factor = "" }, func(p *api.Product) { p.Constraints = nil },
		func(p *api.Product) { p.Requirements[0].Name = "x" }, func(p *api.Product) { p.Requirements[0].Gap.Op = 0 }, func(p *api.Product) { p.Requirements[0].Gap.Factor = "" }, func(p *api.Product) { p.Requirements[0].Gap.Form.Constant = "1" }, func(p *api.Product) { p.Requirements[0].Gap.Args[0].Args[1].Op++ }, func(p *api.Product) { p.Requirements[0].Low = "" }, func(p *api.Product) { p.Requirements[0].High = "" }, func(p *api.Product) { p.Requirements = nil },
	} {
		p := ordinary()
		change(&p)
		if Equal(p, ordinary()) || Equal(ordinary(), p) {
			t.Errorf("%d: Equal of different products", i)
		}
	}
	if !EqualExpr(api.Expr{Args: []api.Expr{}}, api.Expr{Form: api.Form{Terms: []api.Term{}}}) || EqualExpr(formed("1"), formed("1", 0, "1")) || EqualExpr(wide(2), wide(3)) {
		t.Error("EqualExpr")
	}
}

func randomExpr(r *rand.Rand, levels, dimensions int) api.Expr {
	kind := r.Intn(6)
	if levels == 1 || kind == api.OpForm {
		x := formed(fmt.Sprint(r.Intn(7) - 3))
		for d := range dimensions {
			if n := r.Intn(9) - 4; n != 0 && r.Intn(2) == 0 {
				x.Form.Terms = append(x.Form.Terms, api.Term{Dimension: d, Factor: api.Number(fmt.Sprint(n))})
			}
		}
		return x
	}
	x := api.Expr{Op: kind}
	if kind == api.OpScale {
		x.Factor = []api.Number{"0", "-1/2", "7", "22/7"}[r.Intn(4)]
	}
	for i := range 3 {
		if i == 0 || !isSingle(kind) && r.Intn(2) == 0 {
			x.Args = append(x.Args, randomExpr(r, levels-1, dimensions))
		}
	}
	return x
}

func randomName(r *rand.Rand, i int) string {
	return fmt.Sprint([]string{"a", "A", "1", "-", "min", "\"", "\\", "#", "part", "~.."}[r.Intn(10)], i)
}

func randomProduct(r *rand.Rand) api.Product {
	p := api.Product{Name: randomName(r, 0)}
	for i := range r.Intn(3) {
		part := api.Part{Name: randomName(r, i), Density: 1 + r.Intn(9)}
		for range r.Intn(3) {
			var c api.Cell
			for range r.Intn(5) {
				c.Vertices = append(c.Vertices, api.Vector{r.Intn(9) - 4, r.Intn(9) - 4, r.Intn(9) - 4})
			}
			part.Cells = append(part.Cells, c)
		}
		p.Assembly.Parts = append(p.Assembly.Parts, part)
		p.Assembly.Instances = append(p.Assembly.Instances, api.Instance{Name: randomName(r, i), Part: part.Name, Place: api.Placement{Turn: [4]int{r.Intn(9) - 4}, Shift: api.Point{"-5/7", "0", "12"}}})
	}
	dimensions := r.Intn(4)
	for i := range dimensions {
		p.Dimensions = append(p.Dimensions, api.Dimension{Name: randomName(r, i), Nominal: r.Intn(99) - 50, Lower: -r.Intn(5), Upper: r.Intn(5)})
	}
	for i := range r.Intn(3) {
		p.Constraints = append(p.Constraints, api.Constraint{Name: randomName(r, i), Form: randomExpr(r, 1, dimensions).Form})
	}
	for i := range r.Intn(3) {
		p.Requirements = append(p.Requirements, api.Requirement{Name: randomName(r, i), Gap: randomExpr(r, 4, dimensions), Low: []api.Number{"", "-1/2"}[r.Intn(2)], High: []api.Number{"", "5"}[r.Intn(2)]})
	}
	return p
}

// spread writes tokens with other blanks and comments between them.
func spread(r *rand.Rand, text string) string {
	l, _, _, _ := lexer.Scan(text)
	var b strings.Builder
	for _, t := range l[:len(l)-1] {
		word := t.Text
		if t.Kind == lexer.String {
			word, _ = lexer.Quote(t.Text)
		}
		b.WriteString(word + []string{" ", "\n", " # x\n", "\n\n "}[r.Intn(4)])
	}
	return b.String()
}

// P36.5
func TestConsequences(t *testing.T) {
	r := rand.New(rand.NewSource(1))
	for range 100 {
		p := randomProduct(r)
		text, e := Print(p)
		if e != api.OK {
			t.Fatalf("Print: %d", e)
		}
		again, _, _, e := Parse(text)
		if e != api.OK || !Equal(again, p) || Check(again) != api.OK {
			t.Fatalf("Parse of Print: %d\n%s", e, text)
		}
		for _, s := range []string{text, spread(r, text)} {
			if formatted, _, _, e := Format(s); formatted != text || e != api.OK {
				t.Fatalf("Format of %s: %s, %d", s, formatted, e)
			}
		}
		// A beginning has an error, or fewer statements.
		for i := range len(text) - 1 {
			if text[i] == ';' && strings.HasPrefix(text[i:], ";\n}") {
				continue
			}
			q, _, _, e := Parse(text[:i])
			if e == api.OK && statements(q) >= statements(p) {
				t.Fatalf("%q has as many statements as %q", text[:i], text)
			}
		}
	}
}

func statements(p api.Product) int {
	return len(p.Assembly.Parts) + len(p.Assembly.Instances) + len(p.Dimensions) + len(p.Constraints) + len(p.Requirements)
}

// Arguments are not changed, and results share no memory with them.
func TestMemory(t *testing.T) {
	p, want := ordinary(), ordinary()
	Check(p)
	Print(p)
	PrintExpr(p.Dimensions, p.Requirements[0].Gap)
	x, _, _, e := ParseExpr(p.Dimensions, "min([1 + 1 * d1], [2])")
	if e != api.OK || !Equal(p, want) {
		t.Errorf("an argument is changed, %d", e)
	}
	x.Args[0].Form.Terms[0].Dimension = 7
	a, _, _, _ := Parse(ordinaryText)
	a.Assembly.Parts[0].Cells[0].Vertices[0][0] = 99
	if b, _, _, _ := Parse(ordinaryText); !Equal(b, want) {
		t.Error("results share memory")
	}
}
