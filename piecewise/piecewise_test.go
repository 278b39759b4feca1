package piecewise

import (
	"fmt"
	"math/rand"
	"slices"
	"strings"
	"testing"

	"dowel/api"
	"dowel/dimension"
	"dowel/rational"
	"dowel/stackup"
)

// formed returns a form with a constant and terms, given as dimension and factor in turn.
func formed(constant string, terms ...any) api.Form {
	f := api.Form{Constant: api.Number(constant)}
	for i := 0; i < len(terms); i += 2 {
		f.Terms = append(f.Terms, api.Term{Dimension: terms[i].(int), Factor: api.Number(terms[i+1].(string))})
	}
	return f
}

func leaf(constant string, terms ...any) api.Expr {
	return api.Expr{Form: formed(constant, terms...)}
}

func op(kind int, args ...api.Expr) api.Expr { return api.Expr{Op: kind, Args: args} }

func scaleBy(factor string, x api.Expr) api.Expr {
	return api.Expr{Op: api.OpScale, Factor: api.Number(factor), Args: []api.Expr{x}}
}

func numbers(s string) []api.Number {
	var l []api.Number
	for _, n := range strings.Fields(s) {
		l = append(l, api.Number(n))
	}
	return l
}

var (
	a = leaf("0", 0, "1")
	b = leaf("0", 1, "1")
)

// two has the dimensions a from 0 to 4, and b from 1 to 3.
func two() stackup.Problem {
	return stackup.Problem{Dimensions: []api.Dimension{{Name: "a", Nominal: 2, Lower: -2, Upper: 2}, {Name: "b", Nominal: 0, Lower: 1, Upper: 3}}}
}

func distance() api.Expr { return op(api.OpAbs, leaf("0", 0, "1", 1, "-1")) }

// nested returns magnitudes in one another.
func nested(levels int) api.Expr {
	x := a
	for range levels {
		x = op(api.OpAbs, x)
	}
	return x
}

// wide returns the greatest one of some forms.
func wide(args int) api.Expr {
	x := api.Expr{Op: api.OpMax}
	for i := range args {
		x.Args = append(x.Args, leaf(fmt.Sprint(i), 0, "1"))
	}
	return x
}

// P41.1
func TestCheckCountChoices(t *testing.T) {
	six := op(api.OpAdd, slices.Repeat([]api.Expr{distance()}, 6)...)
	for i, c := range []struct {
		x     api.Expr
		count int
	}{
		{a, 1}, {op(api.OpAdd, a, b), 1}, {op(api.OpMin, a, b), 2}, {op(api.OpMin, a), 1}, {distance(), 2}, {op(api.OpMax, op(api.OpMin, a, b), op(api.OpAbs, a)), 8}, {six, 64}, {op(api.OpMax, six, a), 65}, {wide(63), 63}, {nested(6), 64}, {nested(7), 65}, {op(api.OpMax, wide(5), wide(13)), 65}, {op(api.OpAdd, wide(5), wide(13)), 65}, {op(api.OpAdd, wide(4), wide(16)), 64}, {scaleBy("0", op(api.OpMin, a, b, a)), 3},
	} {
		if n := Count(c.x); n != c.count {
			t.Errorf("%d: Count = %d", i, n)
		}
		l := Choices(c.x)
		if want := c.count % 65; len(l) != want || !slices.IsSortedFunc(l, slices.Compare[[]int]) || len(slices.CompactFunc(slices.Clone(l), slices.Equal[[]int])) != want {
			t.Errorf("%d: Choices = %v", i, l)
		}
		want := api.OK
		if c.count > 64 {
			want = api.ErrLimit
		}
		if e := Check(two(), c.x); e != want {
			t.Errorf("%d: Check = %d", i, e)
		}
	}
	if l := Choices(op(api.OpMin, a, op(api.OpAbs, b), b)); fmt.Sprint(l) != "[[0 0] [0 1] [1 0] [1 1] [2 0] [2 1]]" {
		t.Errorf("Choices = %v", l)
	}
	if l := Choices(a); len(l) != 1 || len(l[0]) != 0 {
		t.Errorf("Choices = %v", l)
	}
	bad := two()
	bad.Dimensions[0].Name = ""
	for i, c := range []struct {
		p    stackup.Problem
		x    api.Expr
		want api.Errno
	}{
		{bad, op(7), api.ErrName}, {two(), op(7), api.ErrKind}, {two(), leaf("0", 2, "1"), api.ErrRange}, {two(), op(api.OpMin), api.ErrForm}, {two(), op(api.OpAdd, wide(61), wide(61)), api.ErrLimit}, {two(), op(api.OpAdd, wide(20), op(api.OpMax, a, leaf("x"))), api.ErrSyntax}, {two(), nested(8), api.ErrDepth}, {two(), nested(7), api.ErrLimit}, {two(), scaleBy("2", distance()), api.OK},
	} {
		if e := Check(c.p, c.x); e != c.want {
			t.Errorf("%d: Check = %d", i, e)
		}
		if c.want == api.OK {
			continue
		}
		greatest, e1 := Greatest(c.p, c.x)
		least, e2 := Least(c.p, c.x)
		e3 := Verify(c.p, c.x, true, api.Worst{})
		report, e4 := Examine(c.p, api.Requirement{Name: "r", Gap: c.x, Low: "x"})
		if greatest.Value != "" || least.Cases != nil || report.Met || !slices.Equal([]api.Errno{e1, e2, e3, e4}, slices.Repeat([]api.Errno{c.want}, 4)) {
			t.Errorf("%d: %d, %d, %d, %d", i, e1, e2, e3, e4)
		}
	}
}

// P41.2
func TestCaseAndRegion(t *testing.T) {
	third := leaf("1", 2, "1")
	max := op(api.OpMax, op(api.OpMin, a, b), op(api.OpAbs, third))
	for i, c := range []struct {
		x      api.Expr
		choice []int
		form   api.Form
		region []api.Form
		e      api.Errno
	}{
		{op(api.OpMin, a, b), []int{0}, a.Form, []api.Form{formed("0", 0, "1", 1, "-1")}, 0}, {op(api.OpMin, a, b, third), []int{1}, b.Form, []api.Form{formed("0", 0, "-1", 1, "1"), formed("-1", 1, "1", 2, "-1")}, 0}, {op(api.OpMax, a, b, third), []int{1}, b.Form, []api.Form{formed("0", 0, "1", 1, "-1"), formed("1", 1, "-1", 2, "1")}, 0}, {op(api.OpAbs, third), []int{0}, third.Form, []api.Form{formed("-1", 2, "-1")}, 0}, {op(api.OpAbs, third), []int{1}, formed("-1", 2, "-1"), []api.Form{third.Form}, 0},
		{a, nil, a.Form, nil, 0}, {op(api.OpAdd, a, scaleBy("-1/2", b), leaf("3")), nil, formed("3", 0, "1", 1, "-1/2"), nil, 0}, {op(api.OpMin, a), []int{0}, a.Form, nil, 0}, {op(api.OpMin, a, a), []int{1}, a.Form, []api.Form{formed("0")}, 0},
		// The regions stand in preorder, also those of what is not chosen.
		{max, []int{0, 1, 1}, b.Form, []api.Form{formed("-1", 1, "-1", 2, "-1"), formed("0", 0, "-1", 1, "1"), third.Form}, 0}, {max, []int{1, 0, 0}, third.Form, []api.Form{formed("-1", 0, "1", 2, "-1"), formed("0", 0, "1", 1, "-1"), formed("-1", 2, "-1")}, 0}, {scaleBy("0", op(api.OpAbs, a)), []int{1}, formed("0"), []api.Form{a.Form}, 0}, {scaleBy("-2", op(api.OpAbs, a)), []int{1}, formed("0", 0, "2"), []api.Form{a.Form}, 0},
		{max, []int{0, 0}, api.Form{}, nil, api.ErrSize}, {max, []int{9, 0, 0, 0}, api.Form{}, nil, api.ErrSize}, {max, []int{0, 2, 0}, api.Form{}, nil, api.ErrRange}, {max, []int{0, 0, -1}, api.Form{}, nil, api.ErrRange}, {a, []int{0}, api.Form{}, nil, api.ErrSize},
	} {
		form, region, e := Case(c.x, c.choice)
		if fmt.Sprint(form, region) != fmt.Sprint(c.form, c.region) || e != c.e {
			t.Errorf("%d: Case = %v, %v, %d", i, form, region, e)
		}
	}
	for i, c := range []struct {
		x      api.Expr
		choice []int
		at     string
		want   bool
		e      api.Errno
	}{
		{max, []int{0, 1, 1}, "3 2 -2", true, 0}, {max, []int{0, 1, 1}, "3 2 -4", false, 0}, {max, []int{0, 1, 1}, "3 2 -3", true, 0}, {max, []int{0, 1, 1}, "1 2 -2", false, 0}, {max, []int{0, 1, 1}, "3 2 -1", true, 0}, {max, []int{0, 1, 0}, "3 2 -1", true, 0}, {max, []int{0, 1, 0}, "3 2 -3/2", false, 0}, {max, []int{0}, "x", false, api.ErrSize}, {max, []int{0, 2, 0}, "x", false, api.ErrRange}, {max, []int{0, 1, 0}, "x", false, api.ErrSyntax}, {max, []int{0, 1, 0}, "1 2", false, api.ErrSize}, {max, []int{0, 1, 0}, "3 2 -1 5", true, 0}, {max, []int{0, 1, 0}, "3 2 -1 1/0", false, api.ErrZero}, {a, nil, "1", true, 0}, {op(api.OpAdd, third, scaleBy("-1", third)), nil, "1 2", false, api.ErrSize},
	} {
		if ok, e := Region(c.x, c.choice, numbers(c.at)); ok != c.want || e != c.e {
			t.Errorf("%d: Region = %t, %d", i, ok, e)
		}
	}
}

// P41.3
func TestWorstCases(t *testing.T) {
	ordered := two()
	ordered.Constraints = []api.Constraint{{Name: "c", Form: formed("0", 0, "1", 1, "-1")}}
	for i, c := range []struct {
		p               stackup.Problem
		x               api.Expr
		greatest, least api.Number
	}{
		{two(), op(api.OpMin, a, b), "3", "0"}, {two(), distance(), "3", "0"}, {two(), op(api.OpMax, a, b), "4", "1"}, {ordered, op(api.OpMax, a, b), "3", "1"}, {ordered, distance(), "3", "0"}, {two(), op(api.OpAdd, distance(), op(api.OpMin, a, leaf("1"))), "4", "1"}, {two(), scaleBy("-2", distance()), "0", "-6"}, {two(), leaf("1", 0, "1", 1, "-1/2"), "9/2", "-1/2"}, {stackup.Problem{}, op(api.OpAbs, leaf("-3")), "3", "3"}, {two(), scaleBy("0", distance()), "0", "0"}, {two(), wide(63), "66", "62"},
	} {
		greatest, e := Greatest(c.p, c.x)
		least, f := Least(c.p, c.x)
		if greatest.Value != c.greatest || least.Value != c.least || e != api.OK || f != api.OK {
			t.Errorf("%d: %s, %s, %d, %d", i, greatest.Value, least.Value, e, f)
		}
		if e, f := Verify(c.p, c.x, true, greatest), Verify(c.p, c.x, false, least); e != api.OK || f != api.OK {
			t.Errorf("%d: Verify = %d, %d", i, e, f)
		}
	}
	impossible := two()
	impossible.Constraints = []api.Constraint{{Name: "c", Form: formed("5", 0, "1")}}
	greatest, e1 := Greatest(impossible, distance())
	least, e2 := Least(impossible, distance())
	report, e3 := Examine(impossible, api.Requirement{Name: "r", Gap: distance()})
	if greatest.Value != "" || greatest.Cases != nil || least.Value != "" || report.Met || e1 != api.ErrInfeasible || e2 != api.ErrInfeasible || e3 != api.ErrInfeasible {
		t.Errorf("%d, %d, %d", e1, e2, e3)
	}
}

// P41.3
func TestVerify(t *testing.T) {
	gap := op(api.OpMin, a, b)
	// The rows are a <= 4, -a <= 0, b <= 3, -b <= -1, and a - b <= 0 or b - a <= 0.
	good := func() api.Worst {
		return api.Worst{Value: "3", At: numbers("3 3"), Cases: []api.Case{{Choice: []int{0}, Duals: numbers("0 0 1 0 1")}, {Choice: []int{1}, Duals: numbers("0 0 1 0 0")}}}
	}
	if e := Verify(two(), gap, true, good()); e != api.OK {
		t.Fatalf("Verify = %d", e)
	}
	for i, change := range []func(w *api.Worst){
		func(w *api.Worst) { w.Value = "4" }, func(w *api.Worst) { w.Value = "6/2" }, func(w *api.Worst) { w.Value = "2" }, func(w *api.Worst) { w.At = numbers("5 3") }, func(w *api.Worst) { w.At = numbers("3 2") }, func(w *api.Worst) { w.At = numbers("3") }, func(w *api.Worst) { w.At = numbers("3 6/2") }, func(w *api.Worst) { w.At = numbers("3 3 0") },
		func(w *api.Worst) { w.Cases = w.Cases[:1] }, func(w *api.Worst) { w.Cases = append(w.Cases, w.Cases[0]) }, func(w *api.Worst) { w.Cases[0], w.Cases[1] = w.Cases[1], w.Cases[0] }, func(w *api.Worst) { w.Cases[0].Choice = nil }, func(w *api.Worst) { w.Cases[1].Choice = []int{2} }, func(w *api.Worst) { w.Cases[0].Choice = []int{0, 0} }, func(w *api.Worst) { w.Cases[0].Duals = numbers("0 0 1 0") }, func(w *api.Worst) { w.Cases[0].Duals = numbers("0 0 1 0 1 0") }, func(w *api.Worst) { w.Cases[0].Duals = numbers("1 0 0 0 0") }, func(w *api.Worst) { w.Cases[0].Duals = numbers("1 0 1 0 1") }, func(w *api.Worst) { w.Cases[0].Duals = numbers("1 1 1 0 1") }, func(w *api.Worst) { w.Cases[0].Duals = numbers("0 -1 1 0 0") }, func(w *api.Worst) { w.Cases[0].Duals = numbers("0 0 1 0 1/1") }, func(w *api.Worst) { w.Cases[0].Duals = numbers("0 0 0 0 0") },
	} {
		w := good()
		change(&w)
		if e := Verify(two(), gap, true, w); e != api.ErrCertificate {
			t.Errorf("%d: Verify = %d", i, e)
		}
	}
	if e := Verify(two(), gap, false, good()); e != api.ErrCertificate {
		t.Errorf("Verify = %d", e)
	}
	// A case whose region is empty can be proved so, or by a bound below the value.
	magnitude := op(api.OpAbs, b)
	for duals, want := range map[string]api.Errno{"0 0 0 1 1": api.OK, "0 0 0 1 0": api.OK, "0 0 0 2 2": api.OK, "0 0 1 0 1": api.ErrCertificate, "0 0 0 0 0": api.ErrCertificate, "0 0 0 2 1": api.OK, "0 0 0 1 2": api.ErrCertificate, "1 1 0 1 1": api.ErrCertificate, "0 1 0 1 1": api.ErrCertificate} {
		w := api.Worst{Value: "3", At: numbers("0 3"), Cases: []api.Case{{Choice: []int{0}, Duals: numbers("0 0 1 0 0")}, {Choice: []int{1}, Duals: numbers(duals)}}}
		if e := Verify(two(), magnitude, true, w); e != want {
			t.Errorf("%s: Verify = %d", duals, e)
		}
	}
}

// P41.4
func TestExamine(t *testing.T) {
	for i, c := range []struct {
		low, high, below, above api.Number
		met                     bool
	}{
		{"", "3", "", "0", true}, {"0", "5/2", "0", "-1/2", false}, {"1", "", "-1", "", false}, {"-1", "4", "1", "1", true}, {"", "", "", "", true},
	} {
		r, e := Examine(two(), api.Requirement{Name: "r", Gap: distance(), Low: c.low, High: c.high})
		if r.Below != c.below || r.Above != c.above || r.Met != c.met || r.Least.Value != "0" || r.Greatest.Value != "3" || e != api.OK {
			t.Errorf("%d: Examine = %v, %d", i, r, e)
		}
		if e, f := Verify(two(), distance(), false, r.Least), Verify(two(), distance(), true, r.Greatest); e != api.OK || f != api.OK {
			t.Errorf("%d: Verify = %d, %d", i, e, f)
		}
	}
	bad := two()
	bad.Dimensions[1].Name = "a"
	long := api.Number(strings.Repeat("1", api.MaxNumber+1))
	for i, c := range []struct {
		p    stackup.Problem
		r    api.Requirement
		want api.Errno
	}{
		{bad, api.Requirement{Name: "a b"}, api.ErrName}, {bad, api.Requirement{Name: "r"}, api.ErrDuplicate}, {two(), api.Requirement{Name: "r", Gap: op(9), Low: "x"}, api.ErrKind}, {two(), api.Requirement{Name: "r", Gap: nested(7), Low: "x"}, api.ErrLimit}, {two(), api.Requirement{Name: "r", Gap: a, Low: "x", High: long}, api.ErrSyntax}, {two(), api.Requirement{Name: "r", Gap: a, Low: "9", High: long}, api.ErrLong}, {two(), api.Requirement{Name: "r", Gap: a, Low: "9", High: "8"}, api.ErrOrder}, {two(), api.Requirement{Name: "r", Gap: a, Low: "8", High: "8"}, api.OK},
	} {
		r, e := Examine(c.p, c.r)
		if e != c.want || e != api.OK && (r.Met || r.Least.Value != "" || r.Above != "") {
			t.Errorf("%d: Examine = %v, %d", i, r, e)
		}
	}
}

func randomForm(r *rand.Rand, n int) api.Form {
	f := formed(fmt.Sprint(r.Intn(5) - 2))
	for d := range n {
		if k := r.Intn(5) - 2; k != 0 {
			f.Terms = append(f.Terms, api.Term{Dimension: d, Factor: api.Number(fmt.Sprint(k))})
		}
	}
	return f
}

func randomExpr(r *rand.Rand, n, levels int) api.Expr {
	kind := r.Intn(6)
	if levels == 1 || kind == api.OpForm {
		return api.Expr{Form: randomForm(r, n)}
	}
	x := api.Expr{Op: kind}
	if kind == api.OpScale {
		x.Factor = []api.Number{"0", "-1/2", "-1", "2"}[r.Intn(4)]
	}
	for i := range 3 {
		if i == 0 || kind != api.OpScale && kind != api.OpAbs && r.Intn(2) == 0 {
			x.Args = append(x.Args, randomExpr(r, n, levels-1))
		}
	}
	return x
}

func random(r *rand.Rand) stackup.Problem {
	var p stackup.Problem
	n := 1 + r.Intn(3)
	for i := range n {
		p.Dimensions = append(p.Dimensions, api.Dimension{Name: fmt.Sprint("d", i), Nominal: r.Intn(5) - 2, Lower: -r.Intn(3), Upper: r.Intn(3)})
	}
	for i := range r.Intn(2) {
		p.Constraints = append(p.Constraints, api.Constraint{Name: fmt.Sprint("c", i), Form: randomForm(r, n)})
	}
	return p
}

// vectors returns permitted vectors of halves.
func vectors(p stackup.Problem) [][]api.Number {
	l := [][]api.Number{nil}
	for _, d := range p.Dimensions {
		var longer [][]api.Number
		for _, x := range l {
			for v := 2 * (d.Nominal + d.Lower); v <= 2*(d.Nominal+d.Upper); v++ {
				half, _ := rational.Div(rational.From(v), rational.From(2))
				longer = append(longer, append(slices.Clone(x), half.Number()))
			}
		}
		l = longer
	}
	return slices.DeleteFunc(l, func(x []api.Number) bool {
		ok, _ := stackup.Permitted(p, x)
		return !ok
	})
}

func read(n api.Number) rational.Rat {
	a, _ := rational.Read(n)
	return a
}

// P41.5
func TestConsequences(t *testing.T) {
	r := rand.New(rand.NewSource(1))
	tried := 0
	for range 700 {
		p := random(r)
		x := randomExpr(r, len(p.Dimensions), 4)
		before := fmt.Sprint(p, x)
		if Check(p, x) != api.OK {
			continue
		}
		greatest, e := Greatest(p, x)
		least, e2 := Least(p, x)
		inside := vectors(p)
		if e != e2 || e == api.ErrInfeasible && len(inside) > 0 {
			t.Fatalf("%d, %d with %d vectors", e, e2, len(inside))
		}
		if e == api.ErrInfeasible {
			continue
		}
		tried++
		if Verify(p, x, true, greatest) != api.OK || Verify(p, x, false, least) != api.OK {
			t.Fatal("a worst case is not verified")
		}
		checkVectors(t, x, inside, greatest, least)
		if n := dimension.Normal(x); Check(p, n) == api.OK {
			a, _ := Greatest(p, n)
			b, _ := Least(p, n)
			if a.Value != greatest.Value || b.Value != least.Value {
				t.Fatalf("the normal form %v of %v has other worst cases", n, x)
			}
		}
		if w, e := Greatest(p, scaleBy("-1", x)); e == api.OK && w.Value != rational.Neg(read(least.Value)).Number() {
			t.Fatalf("Greatest of -x is %s, Least of x is %s", w.Value, least.Value)
		}
		if f, ok := dimension.Linear(x); ok {
			if w, _ := stackup.Greatest(p, f); w.Value != greatest.Value {
				t.Fatalf("the linear gap %v is at most %s, not %s", f, w.Value, greatest.Value)
			}
		}
		checkGreatestOfMax(t, p, x, greatest)
		checkNarrower(t, p, x, greatest)
		if fmt.Sprint(p, x) != before {
			t.Fatal("an argument is changed")
		}
	}
	if tried < 300 {
		t.Errorf("%d expressions have worst cases", tried)
	}
}

// checkVectors compares the values at vectors with the worst cases, and looks for their regions.
func checkVectors(t *testing.T, x api.Expr, inside [][]api.Number, greatest, least api.Worst) {
	for i, at := range append(inside[:min(len(inside), 30)], greatest.At, least.At) {
		values, _ := rational.Reads(at)
		v, _ := dimension.Evaluate(x, values)
		if rational.Compare(v, read(greatest.Value)) > 0 || rational.Compare(v, read(least.Value)) < 0 {
			t.Fatalf("%v has the value %s at %v, outside of %s to %s", x, v.Number(), at, least.Value, greatest.Value)
		}
		if i > 2 {
			continue
		}
		found := false
		for _, choice := range Choices(x) {
			form, _, _ := Case(x, choice)
			if ok, _ := Region(x, choice, at); ok {
				w, _ := dimension.Value(form, values)
				if found = true; rational.Compare(v, w) != 0 {
					t.Fatalf("in the region of %v the form of %v has another value", choice, x)
				}
			}
		}
		if !found {
			t.Fatalf("%v is in no region of %v", at, x)
		}
	}
}

func checkGreatestOfMax(t *testing.T, p stackup.Problem, x api.Expr, greatest api.Worst) {
	if x.Op != api.OpMax {
		return
	}
	var values []rational.Rat
	for _, y := range x.Args {
		w, _ := Greatest(p, y)
		values = append(values, read(w.Value))
	}
	if slices.MaxFunc(values, rational.Compare).Number() != greatest.Value {
		t.Fatalf("Greatest of %v is %s", x, greatest.Value)
	}
}

func checkNarrower(t *testing.T, p stackup.Problem, x api.Expr, greatest api.Worst) {
	narrow := stackup.Problem{Dimensions: slices.Clone(p.Dimensions), Constraints: p.Constraints}
	narrow.Dimensions[0].Lower = narrow.Dimensions[0].Upper
	if w, e := Greatest(narrow, x); e == api.OK && rational.Compare(read(w.Value), read(greatest.Value)) > 0 {
		t.Fatal("narrower tolerances make Greatest greater")
	}
}

// Calls with expressions that are not valid end.
func TestInvalidExpressions(t *testing.T) {
	for _, x := range []api.Expr{op(api.OpMin), op(api.OpAbs), op(api.OpScale), op(api.OpAdd), op(99), {Args: []api.Expr{op(api.OpMax)}}, leaf("x", -1, "y")} {
		Count(x)
		Choices(x)
		Case(x, []int{0})
		Case(x, nil)
		Region(x, []int{0}, numbers("1 2"))
		Region(x, nil, numbers("1 2"))
	}
}

// Results share no memory with expressions, nor with one another.
func TestMemory(t *testing.T) {
	x := op(api.OpMin, leaf("0", 0, "1"), leaf("0", 1, "1"))
	form, region, _ := Case(x, []int{0})
	form.Terms[0].Dimension, region[0].Terms[1].Dimension = 9, 9
	plain, _, _ := Case(x.Args[0], nil)
	plain.Terms[0].Dimension = 9
	l := Choices(x)
	l[0][0] = 9
	if x.Args[0].Form.Terms[0].Dimension != 0 || region[0].Terms[0].Dimension != 0 || l[1][0] != 1 {
		t.Error("memory is shared")
	}
}
