package revision

import (
	"fmt"
	"math/rand"
	"slices"
	"strings"
	"testing"

	"dowel/api"
	"dowel/copies"
	"dowel/dimension"
	"dowel/rational"
)

// formed returns a form with a constant and terms, given as dimension and factor in turn.
func formed(constant string, terms ...any) api.Form {
	f := api.Form{Constant: api.Number(constant)}
	for i := 0; i < len(terms); i += 2 {
		f.Terms = append(f.Terms, api.Term{Dimension: terms[i].(int), Factor: api.Number(terms[i+1].(string))})
	}
	return f
}

func cube(name string, size int) api.Part {
	c := api.Cell{}
	for i := range 8 {
		c.Vertices = append(c.Vertices, api.Vector{i / 4 * size, i / 2 % 2 * size, i % 2 * size})
	}
	return api.Part{Name: name, Density: 1, Cells: []api.Cell{c}}
}

func instance(name, part string, x int) api.Instance {
	return api.Instance{Name: name, Part: part, Place: api.Placement{Turn: [4]int{1}, Shift: api.Point{api.Number(fmt.Sprint(x)), "0", "0"}}}
}

func required(name string, f api.Form) api.Requirement {
	return api.Requirement{Name: name, Gap: api.Expr{Form: f}}
}

// sample has two parts, an instance, the dimensions a, b and d, the constraint a - b <= 0, and a requirement about a.
func sample() api.Product {
	return api.Product{
		Name:         "p",
		Assembly:     api.Assembly{Parts: []api.Part{cube("q", 1), cube("r", 2)}, Instances: []api.Instance{instance("i", "q", 0)}},
		Dimensions:   []api.Dimension{{Name: "a", Nominal: 5, Lower: -1, Upper: 1}, {Name: "b", Nominal: 7}, {Name: "d"}},
		Constraints:  []api.Constraint{{Name: "c", Form: formed("0", 0, "1", 1, "-1")}},
		Requirements: []api.Requirement{{Name: "fit", Gap: api.Expr{Form: formed("1", 0, "2")}, Low: "0", High: "9"}},
	}
}

// with returns the sample with a change.
func with(f func(p *api.Product)) api.Product {
	p := sample()
	f(&p)
	return p
}

func start(t *testing.T, p api.Product) Revision {
	r, e := New(p)
	if e != api.OK {
		t.Fatalf("New: %d", e)
	}
	return r
}

func putDimension(at int, name string) Edit {
	return Edit{Put, at, Item{Key: Key{Dimension, name}, Dimension: api.Dimension{Name: name}}}
}

func putPart(at int, p api.Part) Edit {
	return Edit{Put, at, Item{Key: Key{Part, p.Name}, Part: p}}
}

func putInstance(at int, x api.Instance) Edit {
	return Edit{Put, at, Item{Key: Key{Instance, x.Name}, Instance: x}}
}

func putConstraint(at int, name string, f api.Form) Edit {
	return Edit{Put, at, Item{Key: Key{Constraint, name}, Constraint: api.Constraint{Name: name, Form: f}}}
}

func putRequirement(at int, r api.Requirement) Edit {
	return Edit{Put, at, Item{Key: Key{Requirement, r.Name}, Requirement: r}}
}

func drop(kind int, name string) Edit { return Edit{Drop, -1, Item{Key: Key{kind, name}}} }

// P45.1
func TestCheck(t *testing.T) {
	constraints, requirements := make([]api.Constraint, 65), make([]api.Requirement, 65)
	for i := range 65 {
		name := fmt.Sprint("N", i)
		constraints[i] = api.Constraint{Name: name, Form: formed("0")}
		requirements[i] = required(name, formed("0"))
	}
	long := api.Number(strings.Repeat("1", api.MaxNumber+1))
	bounds := func(low, high api.Number) api.Product {
		return with(func(p *api.Product) { p.Requirements[0].Low, p.Requirements[0].High = low, high })
	}
	for i, c := range []struct {
		p    api.Product
		want api.Errno
	}{
		{sample(), api.OK}, {api.Product{Name: "x"}, api.OK}, {with(func(p *api.Product) { p.Assembly.Instances = append(p.Assembly.Instances, instance("k", "r", 0)) }), api.OK}, {with(func(p *api.Product) { p.Constraints, p.Requirements = constraints[:64], requirements[:64] }), api.OK},
		{with(func(p *api.Product) { p.Name, p.Assembly.Parts = "P", nil }), api.ErrName}, {with(func(p *api.Product) { p.Name = "" }), api.ErrName}, {with(func(p *api.Product) { p.Assembly.Parts, p.Dimensions[0].Name = nil, "" }), api.ErrUnknown}, {with(func(p *api.Product) { p.Assembly.Parts[1].Name = "q" }), api.ErrDuplicate}, {with(func(p *api.Product) { p.Dimensions[0].Lower, p.Constraints = 2, make([]api.Constraint, 65) }), api.ErrOrder},
		{with(func(p *api.Product) { p.Constraints = make([]api.Constraint, 65) }), api.ErrLimit}, {with(func(p *api.Product) { p.Constraints[0].Name, p.Requirements = "", make([]api.Requirement, 65) }), api.ErrLimit},
		{with(func(p *api.Product) { p.Constraints[0] = api.Constraint{Name: "a b", Form: formed("x")} }), api.ErrName}, {with(func(p *api.Product) { p.Constraints = append(p.Constraints, api.Constraint{Name: "c"}) }), api.ErrDuplicate}, {with(func(p *api.Product) { p.Constraints[0].Form.Constant, p.Requirements[0].Name = "2/4", "" }), api.ErrForm}, {with(func(p *api.Product) { p.Constraints[0].Form.Terms[1].Dimension = 3 }), api.ErrRange}, {with(func(p *api.Product) { p.Constraints[0].Form.Terms[1].Dimension = 0 }), api.ErrOrder},
		{with(func(p *api.Product) { p.Requirements[0] = api.Requirement{Name: "a b", Low: "x"} }), api.ErrName}, {with(func(p *api.Product) { p.Requirements = append(p.Requirements, api.Requirement{Name: "fit", Low: "x"}) }), api.ErrDuplicate}, {with(func(p *api.Product) { p.Requirements[0].Gap, p.Requirements[0].Low = api.Expr{Op: 9}, "x" }), api.ErrKind}, {with(func(p *api.Product) { p.Requirements[0].Gap.Form.Terms[0].Dimension = 3 }), api.ErrRange},
		{bounds("x", "1/0"), api.ErrSyntax}, {bounds("", "1/0"), api.ErrZero}, {bounds("9", long), api.ErrLong}, {bounds("9", "8"), api.ErrOrder}, {bounds("9", "9"), api.OK}, {bounds("", ""), api.OK},
	} {
		if e := Check(c.p); e != c.want {
			t.Errorf("%d: Check = %d, not %d", i, e, c.want)
		}
		r, e := New(c.p)
		keys, e2 := Reads(c.p, Key{9, "x"})
		if c.want != api.OK && (r.Number != 0 || r.Product.Name != "" || r.Versions != nil || keys != nil || e != c.want || e2 != c.want) {
			t.Errorf("%d: New = %v, %d, Reads = %v, %d", i, r, e, keys, e2)
		}
	}
}

// P45.1
func TestNew(t *testing.T) {
	p := sample()
	r := start(t, p)
	want := "[{{1 } 1} {{1 q} 1} {{1 r} 1} {{2 } 1} {{2 i} 1} {{3 } 1} {{3 a} 1} {{3 b} 1} {{3 d} 1} {{4 } 1} {{4 c} 1} {{5 } 1} {{5 fit} 1}]"
	if r.Number != 1 || !Equal(r.Product, p) || fmt.Sprint(r.Versions) != want {
		t.Errorf("New = %v", r)
	}
	r.Product.Dimensions[0].Name, r.Product.Assembly.Parts[0].Cells[0].Vertices[0][0], r.Product.Constraints[0].Form.Terms[0].Dimension = "x", 9, 9
	if !Equal(p, sample()) {
		t.Error("memory is shared")
	}
	empty := start(t, api.Product{Name: "x"})
	if len(empty.Versions) != 5 {
		t.Errorf("New = %v", empty)
	}
}

// P45.2
func TestFindAndItems(t *testing.T) {
	p := sample()
	for i, c := range []struct {
		k  Key
		at int
		ok bool
	}{
		{Key{Part, "r"}, 1, true}, {Key{Instance, "i"}, 0, true}, {Key{Dimension, "b"}, 1, true}, {Key{Constraint, "c"}, 0, true}, {Key{Requirement, "fit"}, 0, true}, {Key{Part, "i"}, 0, false}, {Key{Part, ""}, 0, false}, {Key{0, "a"}, 0, false}, {Key{6, "a"}, 0, false},
	} {
		x, at, ok := Find(p, c.k)
		if at != c.at || ok != c.ok || !ok && (x.Key != Key{} || !isZero(x)) || ok && (x.Key != c.k || !isWellFormed(Put, x)) {
			t.Errorf("%d: Find = %v, %d, %t", i, x, at, ok)
		}
	}
	twice := with(func(p *api.Product) { p.Dimensions[2].Name = "a" })
	if x, at, ok := Find(twice, Key{Dimension, "a"}); x.Dimension.Nominal != 5 || at != 0 || !ok {
		t.Errorf("Find = %v, %d, %t", x, at, ok)
	}
	x, _, _ := Find(p, Key{Part, "q"})
	x.Part.Cells[0].Vertices[0][0] = 9
	items := Items(p)
	var keys []string
	for _, x := range items {
		keys = append(keys, fmt.Sprint(x.Key.Kind, x.Key.Name))
	}
	if strings.Join(keys, " ") != "1q 1r 2i 3a 3b 3d 4c 5fit" || items[5].Dimension.Name != "d" || items[6].Constraint.Form.Terms[1].Factor != "-1" || items[7].Requirement.High != "9" || items[2].Instance.Part != "q" {
		t.Errorf("Items = %v", items)
	}
	items[6].Constraint.Form.Terms[0].Dimension = 9
	items[7].Requirement.Gap.Form.Terms[0].Dimension = 9
	if !Equal(p, sample()) {
		t.Error("memory is shared")
	}
	ordered := []Key{{-1, "z"}, {1, ""}, {1, "B"}, {1, "a"}, {1, "ab"}, {2, ""}}
	for i, a := range ordered {
		for k, b := range ordered {
			want := 0
			if i != k {
				want = (i - k) / max(i-k, k-i)
			}
			if CompareKeys(a, b) != want {
				t.Errorf("CompareKeys(%v, %v) = %d", a, b, CompareKeys(a, b))
			}
		}
	}
}

// numbersOf returns the versions that are not 1, as text.
func numbersOf(r Revision) string {
	var l []string
	for _, v := range r.Versions {
		if v.Number != 1 {
			l = append(l, fmt.Sprint(v.Key.Kind, v.Key.Name, "=", v.Number))
		}
	}
	return strings.Join(l, " ")
}

// P45.3
func TestApply(t *testing.T) {
	scaled := api.Requirement{Name: "fit", Gap: api.Expr{Op: api.OpMax, Args: []api.Expr{{Form: formed("0", 2, "1")}, {Op: api.OpAbs, Args: []api.Expr{{Form: formed("0", 0, "3")}}}}}}
	for i, c := range []struct {
		l        []Edit
		versions string
		check    func(p api.Product) bool
	}{
		{[]Edit{putDimension(1, "x")}, "3=2 3x=2", func(p api.Product) bool {
			return p.Dimensions[1].Name == "x" && len(p.Dimensions) == 4 && fmt.Sprint(p.Constraints[0].Form.Terms) == "[{0 1} {2 -1}]" && p.Requirements[0].Gap.Form.Terms[0].Dimension == 0
		}},
		{[]Edit{putDimension(0, "x")}, "3=2 3x=2", func(p api.Product) bool {
			return fmt.Sprint(p.Constraints[0].Form.Terms) == "[{1 1} {2 -1}]" && p.Requirements[0].Gap.Form.Terms[0].Dimension == 1
		}},
		{[]Edit{putDimension(3, "x")}, "3=2 3x=2", func(p api.Product) bool { return p.Dimensions[3].Name == "x" && p.Dimensions[2].Name == "d" }},
		{[]Edit{putDimension(-1, "b")}, "3b=2", func(p api.Product) bool { return p.Dimensions[1] == api.Dimension{Name: "b"} }},
		{[]Edit{drop(Dimension, "d")}, "3=2", func(p api.Product) bool { return len(p.Dimensions) == 2 }},
		{[]Edit{drop(Constraint, "c"), drop(Dimension, "b")}, "3=2 4=2", func(p api.Product) bool { return p.Dimensions[1].Name == "d" && len(p.Constraints) == 0 }},
		// The indices of what is put are those of that moment.
		{[]Edit{putRequirement(-1, scaled), putDimension(1, "x"), putConstraint(1, "k", formed("0", 1, "7"))}, "3=2 3x=2 4=2 4k=2 5fit=2", func(p api.Product) bool {
			return p.Requirements[0].Gap.Args[0].Form.Terms[0].Dimension == 3 && p.Requirements[0].Gap.Args[1].Args[0].Form.Terms[0].Dimension == 0 && p.Constraints[1].Form.Terms[0].Dimension == 1
		}},
		{[]Edit{putRequirement(0, required("new", formed("0", 2, "1"))), drop(Constraint, "c"), drop(Dimension, "b")}, "3=2 4=2 5=2 5new=2", func(p api.Product) bool { return p.Requirements[0].Gap.Form.Terms[0].Dimension == 1 }},
		{[]Edit{putPart(0, cube("s", 3)), putInstance(1, instance("k", "s", 9)), putPart(-1, cube("q", 4))}, "1=2 1q=2 1s=2 2=2 2k=2", func(p api.Product) bool {
			return p.Assembly.Parts[0].Name == "s" && p.Assembly.Parts[1].Cells[0].Vertices[7][0] == 4 && p.Assembly.Instances[1].Part == "s"
		}},
		{[]Edit{putInstance(-1, instance("i", "r", 1)), drop(Part, "q")}, "1=2 2i=2", func(p api.Product) bool { return len(p.Assembly.Parts) == 1 }},
		// What is put and dropped again leaves its trace in the version of the list alone; what is dropped and put again is new.
		{[]Edit{putDimension(0, "x"), drop(Dimension, "x")}, "3=2", func(p api.Product) bool { return Equal(p, sample()) }},
		{[]Edit{drop(Requirement, "fit"), putRequirement(0, sample().Requirements[0])}, "5=2 5fit=2", func(p api.Product) bool { return Equal(p, sample()) }},
		// In between, a product can be what it must not be in the end.
		{[]Edit{putDimension(0, ""), putDimension(0, "two words"), drop(Dimension, ""), drop(Dimension, "two words")}, "3=2", func(p api.Product) bool { return Equal(p, sample()) }},
		{[]Edit{putConstraint(-1, "c", formed("x", 1, "0", 0, "1")), putConstraint(-1, "c", formed("5"))}, "4c=2", func(p api.Product) bool { return p.Constraints[0].Form.Constant == "5" }},
	} {
		r := start(t, sample())
		next, e := Apply(r, c.l)
		if e != api.OK || next.Number != 2 || numbersOf(next) != c.versions || !c.check(next.Product) || Check(next.Product) != api.OK {
			t.Errorf("%d: Apply = %v (%s), %d", i, next, numbersOf(next), e)
		}
		if !slices.IsSortedFunc(next.Versions, func(a, b Version) int { return CompareKeys(a.Key, b.Key) }) || len(next.Versions) != len(Items(next.Product))+5 {
			t.Errorf("%d: the versions are %v", i, next.Versions)
		}
		if !Equal(r.Product, sample()) || numbersOf(r) != "" {
			t.Errorf("%d: the revision has changed", i)
		}
		checkInverse(t, r, next, c.l)
	}
}

// checkInverse applies the inverse edits.
func checkInverse(t *testing.T, r, next Revision, l []Edit) {
	inverse, e := Invert(r, l)
	if e != api.OK || len(inverse) != len(l) {
		t.Fatalf("Invert = %v, %d", inverse, e)
	}
	back, e := Apply(next, inverse)
	if e != api.OK || !Equal(back.Product, r.Product) || back.Number != r.Number+2 {
		t.Fatalf("the edits %v lead back to %v, %d", inverse, back, e)
	}
}

// P45.3, P45.4
func TestEditsWithErrors(t *testing.T) {
	both := putDimension(0, "x")
	both.Item.Part.Density = 1
	deep := drop(Part, "q")
	deep.Item.Requirement.Gap.Args = make([]api.Expr, 1)
	empty := drop(Dimension, "d")
	empty.Item.Part.Cells, empty.Item.Constraint.Form.Terms = []api.Cell{}, []api.Term{}
	named := putDimension(0, "x")
	named.Item.Key.Name = "y"
	shifted := drop(Dimension, "d")
	shifted.At = 2
	var many []api.Dimension
	for i := range 64 {
		many = append(many, api.Dimension{Name: fmt.Sprint("m", i)})
	}
	full := with(func(p *api.Product) { p.Dimensions, p.Constraints, p.Requirements = many, nil, nil })
	for i, c := range []struct {
		p    api.Product
		l    []Edit
		want api.Errno
	}{
		{sample(), nil, api.ErrEmpty}, {sample(), make([]Edit, MaxEdits+1), api.ErrLimit}, {sample(), []Edit{{}}, api.ErrKind}, {sample(), []Edit{{Op: 3, Item: Item{Key: Key{9, "x"}}}}, api.ErrKind}, {sample(), []Edit{empty}, api.OK}, {sample(), slices.Repeat([]Edit{putDimension(-1, "d")}, MaxEdits), api.OK},
		{sample(), []Edit{{Op: Put, At: 9}}, api.ErrForm}, {sample(), []Edit{{Drop, 9, Item{Key: Key{6, "x"}}}}, api.ErrForm}, {sample(), []Edit{both}, api.ErrForm}, {sample(), []Edit{deep}, api.ErrForm}, {sample(), []Edit{named}, api.ErrForm}, {sample(), []Edit{{Drop, -1, Item{Key: Key{Dimension, "d"}, Dimension: api.Dimension{Name: "d"}}}}, api.ErrForm},
		{sample(), []Edit{putDimension(0, "a")}, api.ErrRange}, {sample(), []Edit{putDimension(-1, "x")}, api.ErrRange}, {sample(), []Edit{putDimension(4, "x")}, api.ErrRange}, {sample(), []Edit{shifted}, api.ErrRange}, {sample(), []Edit{{Drop, 0, Item{Key: Key{Dimension, "zz"}}}}, api.ErrRange}, {sample(), []Edit{putInstance(5, instance("k", "none", 0))}, api.ErrRange},
		{sample(), []Edit{putInstance(1, instance("k", "none", 0))}, api.ErrUnknown}, {sample(), []Edit{putInstance(-1, instance("i", "none", 0))}, api.ErrUnknown}, {sample(), []Edit{putConstraint(0, "k", formed("0", 3, "1"))}, api.ErrUnknown}, {sample(), []Edit{putConstraint(0, "k", formed("0", -1, "1"))}, api.ErrUnknown}, {sample(), []Edit{putRequirement(0, required("k", formed("0", 3, "1"))), putDimension(3, "x")}, api.ErrUnknown}, {sample(), []Edit{putDimension(3, "x"), putRequirement(0, required("k", formed("0", 3, "1")))}, api.OK},
		{sample(), []Edit{drop(Dimension, "i")}, api.ErrNotFound}, {sample(), []Edit{drop(Part, "")}, api.ErrNotFound}, {sample(), []Edit{drop(Part, "q")}, api.ErrConflict}, {sample(), []Edit{drop(Part, "r")}, api.OK}, {sample(), []Edit{drop(Dimension, "b")}, api.ErrConflict}, {sample(), []Edit{drop(Constraint, "c"), drop(Dimension, "a")}, api.ErrConflict}, {sample(), []Edit{drop(Constraint, "c"), drop(Dimension, "b"), drop(Dimension, "b")}, api.ErrNotFound},
		{sample(), []Edit{putDimension(0, "two words")}, api.ErrName}, {sample(), []Edit{putConstraint(0, "k", formed("x"))}, api.ErrSyntax}, {sample(), []Edit{putPart(-1, api.Part{Name: "q", Density: 1})}, api.ErrEmpty}, {full, []Edit{putDimension(0, "x")}, api.ErrLimit}, {full, []Edit{putDimension(0, "x"), drop(Dimension, "m5")}, api.OK}, {sample(), []Edit{putConstraint(0, "k", formed("x")), {}}, api.ErrKind},
	} {
		r := start(t, c.p)
		next, e := Apply(r, c.l)
		inverse, e2 := Invert(r, c.l)
		if e != c.want || e2 != c.want || e != api.OK && (next.Number != 0 || next.Versions != nil || next.Product.Name != "" || inverse != nil) {
			t.Errorf("%d: Apply: %d, Invert: %d, not %d", i, e, e2, c.want)
		}
		if !Equal(r.Product, c.p) {
			t.Errorf("%d: the revision has changed", i)
		}
	}
}

// P45.4
func TestInvert(t *testing.T) {
	r := start(t, sample())
	inverse, e := Invert(r, []Edit{putDimension(1, "x"), putDimension(-1, "b"), drop(Requirement, "fit"), drop(Constraint, "c")})
	want := []Edit{putConstraint(0, "c", formed("0", 0, "1", 2, "-1")), putRequirement(0, sample().Requirements[0]), {Put, -1, Item{Key: Key{Dimension, "b"}, Dimension: sample().Dimensions[1]}}, drop(Dimension, "x")}
	if fmt.Sprint(inverse) != fmt.Sprint(want) || e != api.OK {
		t.Errorf("Invert = %v, %d", inverse, e)
	}
}

// P45.5
func TestChangedReadsStampFresh(t *testing.T) {
	r := start(t, sample())
	next, _ := Apply(r, []Edit{putDimension(1, "x"), putPart(-1, cube("r", 5)), drop(Requirement, "fit")})
	third, _ := Apply(next, []Edit{drop(Dimension, "x")})
	for i, c := range []struct {
		a, b Revision
		want string
	}{
		{r, r, "[]"}, {r, next, "[{1 r} {3 } {3 x} {5 } {5 fit}]"}, {next, r, "[{1 r} {3 } {3 x} {5 } {5 fit}]"}, {next, third, "[{3 } {3 x}]"}, {r, third, "[{1 r} {3 } {5 } {5 fit}]"},
	} {
		if keys := Changed(c.a, c.b); fmt.Sprint(keys) != c.want {
			t.Errorf("%d: Changed = %v", i, keys)
		}
	}
	two := with(func(p *api.Product) {
		p.Constraints = append(p.Constraints, api.Constraint{Name: "bb", Form: formed("0", 1, "1")})
		p.Requirements = append(p.Requirements, required("min", formed("0")))
		p.Requirements[1].Gap = api.Expr{Op: api.OpMin, Args: []api.Expr{{Form: formed("0", 2, "1")}, {Form: formed("0", 0, "1", 2, "1")}}}
	})
	for i, c := range []struct {
		k    Key
		want string
		e    api.Errno
	}{
		{Key{Part, "r"}, "[{1 r}]", 0}, {Key{Instance, "i"}, "[{1 q} {2 i}]", 0}, {Key{Dimension, "a"}, "[{3 a}]", 0}, {Key{Constraint, "c"}, "[{3 a} {3 b} {4 c}]", 0}, {Key{Requirement, "fit"}, "[{3 a} {3 b} {4 } {4 bb} {4 c} {5 fit}]", 0}, {Key{Requirement, "min"}, "[{3 a} {3 b} {3 d} {4 } {4 bb} {4 c} {5 min}]", 0}, {Key{Kind: Instance}, "[{2 }]", 0}, {Key{Kind: Requirement}, "[{5 }]", 0}, {Key{Kind: Part}, "[{1 }]", 0}, {Key{Part, "i"}, "[]", api.ErrNotFound}, {Key{}, "[]", api.ErrNotFound}, {Key{Kind: 6}, "[]", api.ErrNotFound},
	} {
		if keys, e := Reads(two, c.k); fmt.Sprint(keys) != c.want || e != c.e {
			t.Errorf("%d: Reads = %v, %d", i, keys, e)
		}
	}
	keys := []Key{{Part, "r"}, {Kind: Dimension}, {Dimension, "a"}, {Part, "r"}}
	stamps, e := Stamp(next, keys)
	if fmt.Sprint(stamps) != "[{{1 r} 2} {{3 } 2} {{3 a} 1} {{1 r} 2}]" || e != api.OK {
		t.Errorf("Stamp = %v, %d", stamps, e)
	}
	if l, e := Stamp(next, append(keys, Key{Requirement, "fit"})); l != nil || e != api.ErrNotFound {
		t.Errorf("Stamp = %v, %d", l, e)
	}
	if Fresh(r, stamps) || !Fresh(next, stamps) || Fresh(third, stamps) || !Fresh(third, stamps[:1]) || !Fresh(r, nil) || Fresh(third, []Version{{Key{Requirement, "fit"}, 1}}) || Fresh(third, []Version{{Key{Requirement, "fit"}, 0}}) {
		t.Error("Fresh")
	}
}

// P45.6
func TestEqual(t *testing.T) {
	if !Equal(sample(), sample()) || !Equal(api.Product{}, api.Product{Dimensions: []api.Dimension{}, Constraints: []api.Constraint{}}) {
		t.Error("Equal = false")
	}
	for i, change := range []func(p *api.Product){
		func(p *api.Product) { p.Name = "x" }, func(p *api.Product) { p.Assembly.Parts[1].Density = 2 }, func(p *api.Product) { p.Assembly.Parts[0].Cells[0].Vertices[7][2] = 5 }, func(p *api.Product) { p.Assembly.Instances[0].Place.Shift[2] = "1" }, func(p *api.Product) { p.Dimensions[2].Upper = 1 }, func(p *api.Product) { p.Dimensions[0], p.Dimensions[1] = p.Dimensions[1], p.Dimensions[0] }, func(p *api.Product) { p.Constraints[0].Form.Terms[1].Factor = "2" }, func(p *api.Product) { p.Constraints = nil }, func(p *api.Product) { p.Requirements[0].Gap.Form.Constant = "2" }, func(p *api.Product) { p.Requirements[0].Low = "" }, func(p *api.Product) { p.Requirements[0].Gap.Factor = "2" },
	} {
		if p := with(change); Equal(p, sample()) || Equal(sample(), p) {
			t.Errorf("%d: Equal = true", i)
		}
	}
}

// randomEdit returns an edit that fits to a product, most of the time.
func randomEdit(r *rand.Rand, p api.Product) Edit {
	names := []string{"a", "b", "c", "d", "e"}
	name := names[r.Intn(len(names))]
	kind := 1 + r.Intn(5)
	_, _, isThere := Find(p, Key{kind, name})
	if isThere && r.Intn(2) == 0 {
		return drop(kind, name)
	}
	l, _ := listOf(kind)
	at := r.Intn(len(l.names(&p)) + 1)
	if isThere {
		at = -1
	}
	f := formed(fmt.Sprint(r.Intn(9)))
	for d := range p.Dimensions {
		if r.Intn(2) == 0 {
			f.Terms = append(f.Terms, api.Term{Dimension: d, Factor: api.Number(fmt.Sprint(1 + r.Intn(9)))})
		}
	}
	switch kind {
	case Part:
		return putPart(at, cube(name, 1+r.Intn(3)))
	case Instance:
		return putInstance(at, instance(name, names[r.Intn(len(names))], r.Intn(9)))
	case Dimension:
		return putDimension(at, name)
	case Constraint:
		return putConstraint(at, name, f)
	}
	q := required(name, f)
	if r.Intn(2) == 0 {
		q.Gap = api.Expr{Op: api.OpMin, Args: []api.Expr{{Form: f}, {Op: api.OpAbs, Args: []api.Expr{{Form: f}}}}}
	}
	return putRequirement(at, q)
}

// P45.7
func TestConsequences(t *testing.T) {
	r := rand.New(rand.NewSource(1))
	applied := 0
	for range 60 {
		now := start(t, api.Product{Name: "p"})
		for range 40 {
			var l []Edit
			next := now
			steps := now // by one edit at a time
			for range 1 + r.Intn(4) {
				edit := randomEdit(r, next.Product)
				longer, e := Apply(now, append(slices.Clone(l), edit))
				one, e2 := Apply(steps, []Edit{edit})
				if e != e2 {
					t.Fatalf("together: %d, alone: %d", e, e2)
				}
				if e == api.OK {
					l, next, steps = append(l, edit), longer, one
				}
			}
			if len(l) == 0 {
				continue
			}
			applied++
			if !Equal(next.Product, steps.Product) || Check(next.Product) != api.OK {
				t.Fatalf("together: %v, one by one: %v", next.Product, steps.Product)
			}
			checkInverse(t, now, next, l)
			checkUnchanged(t, now, next)
			now = next
		}
	}
	if applied < 500 {
		t.Errorf("%d edits were applied", applied)
	}
}

// checkUnchanged compares the items that are in two revisions with the same version, by values at which dimensions are named.
func checkUnchanged(t *testing.T, a, b Revision) {
	value := func(p api.Product, x api.Expr) string {
		var at []rational.Rat
		for _, d := range p.Dimensions {
			at = append(at, rational.From(int(d.Name[0])*int(d.Name[0])))
		}
		v, _ := dimension.Evaluate(x, at)
		return string(v.Number())
	}
	changed := Changed(a, b)
	for _, x := range Items(a.Product) {
		if slices.Contains(changed, x.Key) {
			continue
		}
		y, _, ok := Find(b.Product, x.Key)
		if !ok {
			t.Fatalf("%v is not there, and not in %v", x.Key, changed)
		}
		v, w := api.Expr{Form: x.Constraint.Form}, api.Expr{Form: y.Constraint.Form}
		if value(a.Product, v) != value(b.Product, w) || value(a.Product, x.Requirement.Gap) != value(b.Product, y.Requirement.Gap) {
			t.Fatalf("%v has another value", x.Key)
		}
		x.Constraint, x.Requirement, y.Constraint, y.Requirement = api.Constraint{}, api.Requirement{}, api.Constraint{}, api.Requirement{}
		if fmt.Sprint(x) != fmt.Sprint(y) {
			t.Fatalf("%v has changed to %v", x, y)
		}
	}
}

// Edits share no memory with revisions.
func TestMemory(t *testing.T) {
	r := start(t, sample())
	edit := putConstraint(-1, "c", formed("0", 0, "1", 1, "-1"))
	next, _ := Apply(r, []Edit{edit, putDimension(0, "x")})
	inverse, _ := Invert(r, []Edit{edit})
	inverse[0].Item.Constraint.Form.Terms[0].Dimension = 9
	next.Product.Assembly.Parts[0].Cells[0].Vertices[0][0] = 9
	if edit.Item.Constraint.Form.Terms[0].Dimension != 0 || !Equal(r.Product, sample()) || next.Product.Constraints[0].Form.Terms[0].Dimension != 1 {
		t.Error("memory is shared")
	}
	if p := copies.Product(sample()); !Equal(p, sample()) {
		t.Error("a copy differs")
	}
}
