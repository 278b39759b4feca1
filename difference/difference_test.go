package difference

import (
	"fmt"
	"math/rand"
	"slices"
	"testing"

	"dowel/api"
	"dowel/copies"
	"dowel/dimension"
	"dowel/rational"
	"dowel/revision"
	"dowel/validity"
)

// formed returns a form with a constant and terms, given as dimension and factor in turn.
func formed(constant string, terms ...any) api.Form {
	f := api.Form{Constant: api.Number(constant)}
	for i := 0; i < len(terms); i += 2 {
		f.Terms = append(f.Terms, api.Term{Dimension: terms[i].(int), Factor: api.Number(terms[i+1].(string))})
	}
	return f
}

func cube(name string, size int) api.Part {
	c := api.Cell{}
	for i := range 8 {
		c.Vertices = append(c.Vertices, api.Vector{i / 4 * size, i / 2 % 2 * size, i % 2 * size})
	}
	return api.Part{Name: name, Density: 1, Cells: []api.Cell{c}}
}

func instance(name, part string, x int) api.Instance {
	return api.Instance{Name: name, Part: part, Place: api.Placement{Turn: [4]int{1}, Shift: api.Point{api.Number(fmt.Sprint(x)), "0", "0"}}}
}

// sample has the cubes a and b side by side, and requirements of the dimensions x and y.
func sample() api.Product {
	return api.Product{
		Name:        "p",
		Assembly:    api.Assembly{Parts: []api.Part{cube("q", 1)}, Instances: []api.Instance{instance("a", "q", 0), instance("b", "q", 1)}},
		Dimensions:  []api.Dimension{{Name: "x", Nominal: 10, Lower: -1, Upper: 1}, {Name: "y", Nominal: 4, Upper: 2}},
		Constraints: []api.Constraint{{Name: "k", Form: formed("-16", 0, "1", 1, "1")}},
		Requirements: []api.Requirement{
			{Name: "fit", Gap: api.Expr{Form: formed("0", 0, "1", 1, "-1")}, Low: "3", High: "9"},
			{Name: "bent", Gap: api.Expr{Op: api.OpMax, Args: []api.Expr{{Form: formed("0", 0, "1")}, {Form: formed("0", 1, "1")}}}},
		},
	}
}

func with(changes ...func(p *api.Product)) api.Product {
	p := sample()
	for _, change := range changes {
		change(&p)
	}
	return p
}

// insert inserts a dimension before all others.
func insert(p *api.Product) {
	p.Dimensions = slices.Insert(p.Dimensions, 0, api.Dimension{Name: "new"})
	for _, l := range [][]api.Term{p.Constraints[0].Form.Terms, p.Requirements[0].Gap.Form.Terms, p.Requirements[1].Gap.Args[0].Form.Terms, p.Requirements[1].Gap.Args[1].Form.Terms} {
		for i := range l {
			l[i].Dimension++
		}
	}
}

// away moves the cube b away, and makes the part heavier.
func away(p *api.Product) {
	p.Assembly.Instances[1] = instance("b", "q", 3)
	p.Assembly.Parts[0].Density = 5
}

func key(kind int, name string) revision.Key { return revision.Key{Kind: kind, Name: name} }

func lie(a, b string) validity.Question {
	return validity.Question{Kind: validity.Lie, Names: [2]string{a, b}}
}

func worst(name string) validity.Question {
	return validity.Question{Kind: validity.Worst, Names: [2]string{name, ""}}
}

// P47.1
func TestChanges(t *testing.T) {
	for i, c := range []struct {
		b    api.Product
		want string
	}{
		{sample(), "[]"}, {with(insert), "[{{3 new} 1}]"}, {with(away), "[{{1 q} 3} {{2 b} 3}]"}, {api.Product{Name: "other"}, "[{{1 q} 2} {{2 a} 2} {{2 b} 2} {{3 x} 2} {{3 y} 2} {{4 k} 2} {{5 bent} 2} {{5 fit} 2}]"}, {with(func(p *api.Product) { p.Name = "other" }), "[]"}, {with(func(p *api.Product) { slices.Reverse(p.Requirements); slices.Reverse(p.Assembly.Instances) }), "[]"},
		// With other places of the dimensions, the terms stand in another order.
		{with(func(p *api.Product) {
			slices.Reverse(p.Dimensions)
			p.Constraints[0].Form = formed("-16", 0, "1", 1, "1")
			p.Requirements[0].Gap.Form = formed("0", 0, "-1", 1, "1")
			p.Requirements[1].Gap.Args[0].Form.Terms[0].Dimension, p.Requirements[1].Gap.Args[1].Form.Terms[0].Dimension = 1, 0
		}), "[]"},
		{with(func(p *api.Product) { slices.Reverse(p.Dimensions) }), "[{{5 bent} 3} {{5 fit} 3}]"}, {with(func(p *api.Product) { p.Requirements[1].Gap.Args = p.Requirements[1].Gap.Args[:1] }), "[{{5 bent} 3}]"}, {with(func(p *api.Product) { p.Requirements[1].Gap.Op = api.OpMin; p.Requirements[0].High = "" }), "[{{5 bent} 3} {{5 fit} 3}]"}, {with(func(p *api.Product) { p.Constraints[0].Form.Constant = "-17" }), "[{{4 k} 3}]"}, {with(func(p *api.Product) { p.Dimensions[1].Name = "z" }), "[{{3 y} 2} {{3 z} 1} {{4 k} 3} {{5 bent} 3} {{5 fit} 3}]"}, {with(func(p *api.Product) { p.Assembly.Parts[0].Cells[0].Vertices[7] = api.Vector{2, 2, 2} }), "[{{1 q} 3}]"},
	} {
		if l, e := Changes(sample(), c.b); fmt.Sprint(l) != c.want || e != api.OK {
			t.Errorf("%d: Changes = %v, %d", i, l, e)
		}
	}
}

// The errors of both products come first.
func TestErrorsOfProducts(t *testing.T) {
	bad := with(func(p *api.Product) { p.Name = "" })
	worse := with(func(p *api.Product) { p.Dimensions[0].Lower = 2 })
	for i, c := range []struct {
		a, b api.Product
		want api.Errno
	}{{bad, worse, api.ErrName}, {sample(), worse, api.ErrOrder}, {worse, bad, api.ErrOrder}} {
		l, e1 := Changes(c.a, c.b)
		p, e2 := Restore(c.a, c.b, []revision.Key{{}})
		keys, e3 := Reasons(c.a, c.b, validity.Question{})
		found, e4 := Answers(c.a, c.b, []validity.Question{{}})
		e5 := Verify(c.a, c.b, Difference{})
		if l != nil || p.Name != "" || keys != nil || found != nil || !slices.Equal([]api.Errno{e1, e2, e3, e4, e5}, slices.Repeat([]api.Errno{c.want}, 5)) {
			t.Errorf("%d: %d, %d, %d, %d, %d", i, e1, e2, e3, e4, e5)
		}
	}
	if l, e := Questions(bad); l != nil || e != api.ErrName {
		t.Errorf("Questions = %v, %d", l, e)
	}
}

// P47.2
func TestRestore(t *testing.T) {
	swapped := with(func(p *api.Product) {
		p.Assembly.Parts = append(p.Assembly.Parts, cube("r", 2))
		p.Assembly.Instances = []api.Instance{instance("c", "r", 9), instance("b", "r", 3), instance("d", "q", 7)}
		p.Dimensions = []api.Dimension{{Name: "y", Nominal: 5}, {Name: "z"}}
		p.Constraints = []api.Constraint{{Name: "m", Form: formed("0", 1, "-1")}}
		p.Requirements = []api.Requirement{{Name: "loose", Gap: api.Expr{Form: formed("0", 0, "1")}}, {Name: "fit", Gap: api.Expr{Form: formed("0", 1, "1")}}}
	})
	all := []revision.Key{key(1, "r"), key(2, "a"), key(2, "b"), key(2, "c"), key(2, "d"), key(3, "x"), key(3, "y"), key(3, "z"), key(4, "k"), key(4, "m"), key(5, "bent"), key(5, "fit"), key(5, "loose")}
	for i, c := range []struct {
		l    []revision.Key
		want string
	}{
		{nil, "q r; c b d; y5 z0; m 0 [{1 -1}]; loose [{0 1}] fit [{1 1}]"},
		{[]revision.Key{key(2, "a"), key(2, "b"), key(2, "d")}, "q r; c b a; y5 z0; m 0 [{1 -1}]; loose [{0 1}] fit [{1 1}]"},
		// Without the part, its instances are left out.
		{[]revision.Key{key(1, "r")}, "q; d; y5 z0; m 0 [{1 -1}]; loose [{0 1}] fit [{1 1}]"},
		// The constraint, with x behind y, and the requirement whose dimension is not there.
		{[]revision.Key{key(3, "x"), key(3, "z"), key(4, "k"), key(4, "m")}, "q r; c b d; y5 x10; k -16 [{0 1} {1 1}]; loose [{0 1}]"},
		{[]revision.Key{key(3, "x"), key(5, "bent"), key(5, "fit")}, "q r; c b d; y5 z0 x10; m 0 [{1 -1}]; loose [{0 1}] fit [{0 -1} {2 1}] bent []"},
		{all, "q; b a; y4 x10; k -16 [{0 1} {1 1}]; fit [{0 -1} {1 1}] bent []"},
	} {
		p, e := Restore(sample(), swapped, c.l)
		var text string
		for _, x := range p.Assembly.Parts {
			text += " " + x.Name
		}
		text += ";"
		for _, x := range p.Assembly.Instances {
			text += " " + x.Name
		}
		text += ";"
		for _, x := range p.Dimensions {
			text += fmt.Sprint(" ", x.Name, x.Nominal)
		}
		text += ";"
		for _, x := range p.Constraints {
			text += fmt.Sprint(" ", x.Name, " ", x.Form.Constant, " ", x.Form.Terms)
		}
		text += ";"
		for _, x := range p.Requirements {
			text += fmt.Sprint(" ", x.Name, " ", x.Gap.Form.Terms)
		}
		if text != " "+c.want || e != api.OK {
			t.Errorf("%d: Restore = %s, %d", i, text, e)
		}
	}
	if p, _ := Restore(sample(), swapped, all); fmt.Sprint(p.Requirements[1].Gap.Args[0].Form.Terms) != "[{1 1}]" || p.Assembly.Instances[0] != sample().Assembly.Instances[1] {
		t.Errorf("Restore = %v", p)
	}
	renamed := with(func(p *api.Product) { p.Name = "other" })
	if p, e := Restore(sample(), renamed, nil); !revision.Equal(p, renamed) || e != api.OK {
		t.Errorf("Restore = %v, %d", p, e)
	}
	full := with(func(p *api.Product) {
		p.Dimensions = slices.Clone(p.Dimensions[1:])
		for i := range 63 {
			p.Dimensions = append(p.Dimensions, api.Dimension{Name: fmt.Sprint("m", i)})
		}
		p.Constraints, p.Requirements = nil, nil
	})
	for i, c := range []struct {
		b    api.Product
		l    []revision.Key
		want api.Errno
	}{
		{with(away), []revision.Key{key(1, "q"), key(2, "a")}, api.ErrNotFound}, {with(away), []revision.Key{key(2, "b"), key(1, "q"), key(2, "z")}, api.ErrOrder}, {with(away), []revision.Key{key(2, "b"), key(2, "b")}, api.ErrOrder}, {with(away), []revision.Key{key(2, "b"), key(2, "a")}, api.ErrNotFound}, {with(insert), []revision.Key{{Kind: 3}}, api.ErrNotFound}, {swapped, []revision.Key{key(3, "z")}, api.ErrUnknown}, {swapped, []revision.Key{key(4, "k")}, api.ErrUnknown}, {full, []revision.Key{key(3, "x")}, api.ErrLimit}, {full, []revision.Key{key(3, "m1"), key(3, "x")}, api.OK},
	} {
		p, e := Restore(sample(), c.b, c.l)
		if e != c.want || e != api.OK && (p.Name != "" || p.Dimensions != nil) {
			t.Errorf("%d: Restore = %v, %d", i, p, e)
		}
	}
}

// P47.3
func TestQuestions(t *testing.T) {
	p := with(func(p *api.Product) {
		p.Assembly.Instances = append(p.Assembly.Instances, instance("c", "q", 9))
		p.Requirements = append(p.Requirements, api.Requirement{Name: "alone", Gap: api.Expr{Form: formed("0")}})
	})
	if l, e := Questions(p); fmt.Sprint(l) != "[{1 [a b]} {1 [a c]} {1 [b c]} {3 [fit ]} {3 [alone ]}]" || e != api.OK {
		t.Errorf("Questions = %v, %d", l, e)
	}
	if l, e := Questions(api.Product{Name: "p"}); len(l) != 0 || e != api.OK {
		t.Errorf("Questions = %v, %d", l, e)
	}
}

// P47.4, P47.5, P47.6
func TestReasons(t *testing.T) {
	wide := func(p *api.Product) { p.Dimensions[0].Upper = 2 }
	deep := func(p *api.Product) { p.Dimensions[1].Lower = -1 }
	loose := func(p *api.Product) { p.Constraints[0].Form.Constant = "-20" }
	both := func(p *api.Product) {
		p.Assembly.Instances[0], p.Assembly.Instances[1] = instance("a", "q", 5), instance("b", "q", 9)
	}
	turned := func(p *api.Product) { p.Assembly.Instances[0] = instance("a", "q", 2) }
	for i, c := range []struct {
		b    api.Product
		q    validity.Question
		want []revision.Key
	}{
		{with(away), lie("a", "b"), []revision.Key{key(2, "b")}}, {with(away), worst("fit"), nil}, {with(insert), worst("fit"), nil}, {with(wide), worst("fit"), []revision.Key{key(3, "x")}}, {with(insert, loose), worst("fit"), nil}, {with(wide, deep), worst("fit"), []revision.Key{key(3, "x"), key(3, "y")}}, {with(turned), lie("a", "b"), nil}, {with(both), lie("a", "b"), []revision.Key{key(2, "a"), key(2, "b")}}, {with(wide, func(p *api.Product) { p.Requirements[0].Low = "2" }), worst("fit"), []revision.Key{key(3, "x"), key(5, "fit")}},
	} {
		keys, e := Reasons(sample(), c.b, c.q)
		if !slices.Equal(keys, c.want) || e != api.OK {
			t.Errorf("%d: Reasons = %v, %d", i, keys, e)
		}
		l, e := Answers(sample(), c.b, []validity.Question{worst("bent"), c.q, lie("a", "z")})
		if len(l) != min(1, len(c.want)) || e != api.OK || len(l) > 0 && (l[0].Question != c.q || !slices.Equal(l[0].Reasons, c.want)) {
			t.Errorf("%d: Answers = %v, %d", i, l, e)
		}
		for _, d := range l {
			checkVerify(t, sample(), c.b, d)
		}
	}
	for i, c := range []struct {
		a, b api.Product
		q    validity.Question
		want api.Errno
	}{
		{sample(), with(away), lie("a", "z"), api.ErrUnknown}, {sample(), with(away), validity.Question{}, api.ErrKind}, {sample(), with(away), worst("bent"), api.ErrKind}, {sample(), with(func(p *api.Product) { p.Assembly.Instances[1].Name = "c" }), lie("a", "b"), api.ErrUnknown}, {with(func(p *api.Product) { p.Constraints[0].Form.Constant = "1" }), with(func(p *api.Product) { p.Requirements = nil }), worst("fit"), api.ErrInfeasible},
	} {
		keys, e := Reasons(c.a, c.b, c.q)
		e2 := Verify(c.a, c.b, Difference{Question: c.q})
		l, e3 := Answers(c.a, c.b, []validity.Question{c.q})
		if keys != nil || len(l) != 0 || e != c.want || e2 != c.want || e3 != api.OK {
			t.Errorf("%d: Reasons = %v, %d, Verify = %d, Answers = %d", i, keys, e, e2, e3)
		}
	}
}

// checkVerify verifies a difference, and others that are not right.
func checkVerify(t *testing.T, a, b api.Product, d Difference) {
	if e := Verify(a, b, d); e != api.OK {
		t.Errorf("Verify = %d", e)
	}
	for i, c := range []struct {
		change func(d *Difference)
		want   api.Errno
	}{
		{func(d *Difference) { d.Before = d.After }, api.ErrConflict}, {func(d *Difference) { d.After = d.Before }, api.ErrConflict}, {func(d *Difference) { d.Before, d.After = d.After, d.Before }, api.ErrConflict}, {func(d *Difference) { d.Before.Question.Kind = validity.Gap }, api.ErrConflict}, {func(d *Difference) { d.Question = validity.Question{} }, api.ErrKind}, {func(d *Difference) { d.Reasons = nil }, api.ErrCertificate}, {func(d *Difference) { d.Reasons = append(slices.Clone(d.Reasons), key(5, "z")) }, api.ErrCertificate}, {func(d *Difference) { d.Before.Versions, d.Before.Separations = nil, nil }, api.OK},
	} {
		x := d
		c.change(&x)
		if e := Verify(a, b, x); e != c.want {
			t.Errorf("%d: Verify = %d", i, e)
		}
	}
}

// What both products say in the same way is no difference.
func TestVerifySame(t *testing.T) {
	x, _ := ask(sample(), lie("a", "b"))
	if e := Verify(sample(), with(insert), Difference{Question: lie("a", "b"), Before: x, After: x}); e != api.ErrConflict {
		t.Errorf("Verify = %d", e)
	}
}

// P47.4: behind the changes that the question depends on, there would be too many parts.
func TestUndecided(t *testing.T) {
	a := with(func(p *api.Product) {
		p.Assembly.Parts = append(p.Assembly.Parts, cube("q2", 1))
		p.Assembly.Instances[1].Part = "q2"
	})
	b := func(parts int) api.Product {
		return with(func(p *api.Product) {
			p.Assembly.Parts = nil
			for i := range parts {
				p.Assembly.Parts = append(p.Assembly.Parts, cube(fmt.Sprint("r", i), 1))
			}
			p.Assembly.Instances = []api.Instance{instance("a", "r0", 0), instance("b", "r0", 2)}
		})
	}
	for parts, c := range map[int]struct {
		keys []revision.Key
		want api.Errno
	}{
		api.MaxParts: {nil, api.ErrUndecided},
		// There is a place for one part more, but not for two.
		api.MaxParts - 1: {[]revision.Key{key(1, "q"), key(1, "q2"), key(1, "r0"), key(2, "a"), key(2, "b")}, api.OK},
		// The instance a needs its part at first, and not any more when it is left out.
		api.MaxParts - 2: {[]revision.Key{key(1, "q2"), key(2, "b")}, api.OK},
	} {
		keys, e := Reasons(a, b(parts), lie("a", "b"))
		if e != c.want || !slices.Equal(keys, c.keys) {
			t.Errorf("%d: Reasons = %v, %d", parts, keys, e)
		}
		l, e := Answers(a, b(parts), []validity.Question{lie("a", "b")})
		if len(l) != min(1, len(keys)) || e != api.OK {
			t.Errorf("%d: Answers = %v, %d", parts, l, e)
		}
		before, after, _ := askBoth(a, b(parts), lie("a", "b"))
		wanted := api.OK
		if c.want != api.OK {
			wanted = api.ErrCertificate
		}
		if e := Verify(a, b(parts), Difference{lie("a", "b"), before, after, keys}); e != wanted {
			t.Errorf("%d: Verify = %d", parts, e)
		}
	}
}

func random(r *rand.Rand) api.Product {
	p := sample()
	if r.Intn(2) == 0 {
		p.Assembly.Parts[0] = cube("q", 1+r.Intn(2))
	}
	for i := range p.Assembly.Instances {
		p.Assembly.Instances[i].Place.Shift[0] = api.Number(fmt.Sprint(r.Intn(4)))
	}
	if r.Intn(2) == 0 {
		p.Assembly.Instances = append(p.Assembly.Instances, instance("c", "q", r.Intn(9)))
	}
	if r.Intn(3) == 0 {
		insert(&p)
	}
	for i := range p.Dimensions {
		if r.Intn(3) == 0 {
			p.Dimensions[i].Upper += r.Intn(3)
		}
	}
	if r.Intn(3) == 0 {
		p.Constraints[0].Form.Constant = api.Number(fmt.Sprint(-14 - r.Intn(3)))
	}
	if r.Intn(4) == 0 {
		p.Constraints = nil
	}
	if r.Intn(4) == 0 {
		p.Requirements = append(p.Requirements, api.Requirement{Name: "more", Gap: api.Expr{Form: formed("0", r.Intn(2), "1")}, Low: "3"})
	}
	if r.Intn(4) == 0 {
		p.Requirements = p.Requirements[1:]
	}
	return p
}

// P47.7
func TestConsequences(t *testing.T) {
	r := rand.New(rand.NewSource(1))
	differences := 0
	for range 150 {
		a, b := random(r), random(r)
		before := fmt.Sprint(a, b)
		l, e := Changes(a, b)
		m, e2 := Changes(b, a)
		if e+e2 != api.OK || len(l) != len(m) {
			t.Fatalf("Changes = %v, %d, and %v, %d", l, e, m, e2)
		}
		var keys []revision.Key
		for i, x := range l {
			if m[i].Key != x.Key || m[i].Kind != []int{0, Removed, Added, Changed}[x.Kind] {
				t.Fatalf("Changes = %v and %v", l, m)
			}
			keys = append(keys, x.Key)
		}
		if same, _ := Changes(a, a); len(same) != 0 {
			t.Fatalf("Changes = %v", same)
		}
		back, e := Restore(a, b, keys)
		if left, _ := Changes(a, back); e != api.OK || len(left) != 0 {
			t.Fatalf("with all restored, %v is left, %d", left, e)
		}
		differences += checkAnswers(t, a, b, keys)
		if fmt.Sprint(a, b) != before {
			t.Fatal("an argument is changed")
		}
	}
	if differences < 50 {
		t.Errorf("%d differences", differences)
	}
}

// checkAnswers restores the reasons of all differences, and looks for answers that have no reason to differ.
func checkAnswers(t *testing.T, a, b api.Product, changed []revision.Key) int {
	l, _ := Questions(a)
	found, e := Answers(a, b, l)
	if e != api.OK {
		t.Fatalf("Answers: %d", e)
	}
	for _, d := range found {
		if e := Verify(a, b, d); e != api.OK {
			t.Fatalf("Verify = %d", e)
		}
		p, e := Restore(a, b, d.Reasons)
		x, e2 := ask(p, d.Question)
		if e+e2 != api.OK || !validity.Same(x, d.Before) {
			t.Fatalf("with %v restored, the answer is %v, %d, %d", d.Reasons, x, e, e2)
		}
		for i := range d.Reasons {
			p, e := Restore(a, b, slices.Delete(slices.Clone(d.Reasons), i, i+1))
			if x, e2 := ask(p, d.Question); e+e2 == api.OK && validity.Same(x, d.Before) {
				t.Fatalf("%v is not needed", d.Reasons[i])
			}
		}
	}
	for _, q := range l {
		reads, _ := validity.Reads(a, q)
		others, e := validity.Reads(b, q)
		touched := slices.ContainsFunc(changed, func(k revision.Key) bool {
			return slices.Contains(reads, k) || slices.Contains(others, k)
		})
		differs := slices.ContainsFunc(found, func(d Difference) bool { return d.Question == q })
		if e == api.OK && !touched && differs {
			t.Fatalf("%v has another answer, although nothing has changed", q)
		}
	}
	return len(found)
}

// The value of a form for dimensions by their names stays the same in another order of the dimensions.
func TestRestoredForms(t *testing.T) {
	b := with(func(p *api.Product) {
		p.Dimensions = []api.Dimension{{Name: "z"}, {Name: "y"}}
		p.Constraints, p.Requirements = nil, nil
	})
	p, e := Restore(sample(), b, []revision.Key{key(3, "x"), key(5, "fit")})
	if e != api.OK || len(p.Requirements) != 1 {
		t.Fatalf("Restore = %v, %d", p, e)
	}
	v, _ := dimension.Value(p.Requirements[0].Gap.Form, []rational.Rat{rational.From(100), rational.From(7), rational.From(50)})
	if v.Number() != "43" {
		t.Errorf("the form is %v", p.Requirements[0].Gap.Form)
	}
	q := copies.Product(p)
	p.Requirements[0].Gap.Form.Terms[0].Dimension = 9
	if sample().Requirements[0].Gap.Form.Terms[0].Dimension != 0 || q.Requirements[0].Gap.Form.Terms[0].Dimension == 9 {
		t.Error("memory is shared")
	}
}
