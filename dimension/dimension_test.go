package dimension

import (
	"fmt"
	"math/big"
	"math/rand"
	"slices"
	"strings"
	"testing"

	"dowel/api"
	"dowel/rational"
)

// formed returns a form with a constant and terms, given as dimension and factor in turn.
func formed(constant string, terms ...any) api.Form {
	f := api.Form{Constant: api.Number(constant)}
	for i := 0; i < len(terms); i += 2 {
		f.Terms = append(f.Terms, api.Term{Dimension: terms[i].(int), Factor: api.Number(terms[i+1].(string))})
	}
	return f
}

func leaf(constant string, terms ...any) api.Expr {
	return api.Expr{Form: formed(constant, terms...)}
}

func op(kind int, args ...api.Expr) api.Expr { return api.Expr{Op: kind, Args: args} }

func scaleBy(factor string, x api.Expr) api.Expr {
	return api.Expr{Op: api.OpScale, Factor: api.Number(factor), Args: []api.Expr{x}}
}

func numbers(l ...string) []rational.Rat {
	var all []rational.Rat
	for _, n := range l {
		a, e := rational.Parse(api.Number(n))
		if e != api.OK {
			panic(n)
		}
		all = append(all, a)
	}
	return all
}

// P37.1
func TestListsOfDimensions(t *testing.T) {
	for s, want := range map[string]bool{"": false, "a": true, "!~": true, "a b": false, "\x7f": false, "ä": false, strings.Repeat("x", 40): true, strings.Repeat("x", 41): false, "a\n": false, "\x00": false} {
		if IsName(s) != want {
			t.Errorf("IsName(%q) = %t", s, !want)
		}
	}
	many := make([]api.Dimension, 65)
	for i := range many {
		many[i].Name = fmt.Sprint("d", i)
	}
	const most = api.MaxLength
	for i, c := range []struct {
		l    []api.Dimension
		want api.Errno
	}{
		{nil, api.OK}, {many, api.ErrLimit}, {many[:64], api.OK}, {make([]api.Dimension, 65), api.ErrLimit}, {[]api.Dimension{{Nominal: most + 1}}, api.ErrName},
		{[]api.Dimension{{Name: "a", Nominal: most, Lower: -most, Upper: most}}, api.OK}, {[]api.Dimension{{Name: "a", Nominal: -most, Lower: most, Upper: most}}, api.OK}, {[]api.Dimension{{Name: "a", Nominal: -most - 1}}, api.ErrRange}, {[]api.Dimension{{Name: "a", Lower: most + 1}}, api.ErrRange}, {[]api.Dimension{{Name: "a", Upper: -most - 1}}, api.ErrRange}, {[]api.Dimension{{Name: "a", Lower: 1}}, api.ErrOrder},
		{[]api.Dimension{{Name: "a"}, {Name: "a", Lower: 1}}, api.ErrOrder}, {[]api.Dimension{{Name: "a"}, {Name: "a"}, {}}, api.ErrDuplicate}, {[]api.Dimension{{Name: "a"}, {}, {Name: "a"}}, api.ErrName},
	} {
		if e := Check(c.l); e != c.want {
			t.Errorf("%d: Check = %d, not %d", i, e, c.want)
		}
	}
	l := []api.Dimension{{Name: "a", Nominal: 10, Lower: -2, Upper: 3}, {Name: "b", Nominal: -5, Lower: 1, Upper: 1}, {Name: "a"}}
	for name, want := range map[string]int{"a": 0, "b": 1} {
		if i, ok := Find(l, name); i != want || !ok {
			t.Errorf("Find = %d, %t", i, ok)
		}
	}
	if i, ok := Find(l, "c"); i != 0 || ok {
		t.Errorf("Find = %d, %t", i, ok)
	}
	if low, high := Range(l[0]); low != 8 || high != 13 {
		t.Errorf("Range = %d, %d", low, high)
	}
	if got := rational.Numbers(Nominal(l)); !slices.Equal(got, []api.Number{"10", "-5", "0"}) {
		t.Errorf("Nominal = %v", got)
	}
	for i, c := range []struct {
		at   []rational.Rat
		want bool
	}{
		{numbers("8", "-4", "0"), true}, {numbers("13", "-4", "0"), true}, {numbers("25/2", "-4", "0"), true}, {numbers("79/10", "-4", "0"), false}, {numbers("131/10", "-4", "0"), false}, {numbers("8", "-5", "0"), false}, {numbers("8", "-4"), false}, {numbers("8", "-4", "0", "0"), false}, {nil, false},
	} {
		if Within(l, c.at) != c.want {
			t.Errorf("%d: Within = %t", i, !c.want)
		}
	}
	if !Within(nil, nil) {
		t.Error("Within of nothing")
	}
}

// P37.2
func TestFit(t *testing.T) {
	hole := api.Dimension{Name: "h", Nominal: 20000, Upper: 21}
	shaft := func(lower, upper int) api.Dimension {
		return api.Dimension{Name: "h", Nominal: 20000, Lower: lower, Upper: upper}
	}
	for i, c := range []struct {
		shaft             api.Dimension
		kind, least, most int
	}{
		{shaft(-20, -7), Clearance, 7, 41}, {shaft(2, 15), Transition, -15, 19}, {shaft(-5, 0), Clearance, 0, 26}, {shaft(-5, 1), Transition, -1, 26}, {shaft(20, 30), Transition, -30, 1}, {shaft(21, 30), Interference, -30, 0}, {shaft(22, 30), Interference, -30, -1},
	} {
		kind, least, most, e := Fit(hole, c.shaft)
		if kind != c.kind || least != c.least || most != c.most || e != api.OK {
			t.Errorf("%d: Fit = %d, %d, %d, %d", i, kind, least, most, e)
		}
		// The other way round the clearances are exchanged and negated.
		if _, a, b, e := Fit(c.shaft, hole); a != -most || b != -least || e != api.OK {
			t.Errorf("%d: Fit = %d, %d, %d", i, a, b, e)
		}
	}
	exact := api.Dimension{Name: "x", Nominal: 5}
	if kind, least, most, _ := Fit(exact, exact); kind != Clearance || least != 0 || most != 0 {
		t.Errorf("Fit = %d, %d, %d", kind, least, most)
	}
	for i, c := range []struct {
		hole, shaft api.Dimension
		want        api.Errno
	}{
		{api.Dimension{Name: "a", Lower: 1}, api.Dimension{}, api.ErrOrder}, {hole, api.Dimension{}, api.ErrName}, {api.Dimension{Name: "a", Upper: 1 << 40}, hole, api.ErrRange},
	} {
		if kind, least, most, e := Fit(c.hole, c.shaft); kind != 0 || least != 0 || most != 0 || e != c.want {
			t.Errorf("%d: Fit = %d, %d, %d, %d", i, kind, least, most, e)
		}
	}
}

// deep returns an expression with some levels.
func deep(levels int) api.Expr {
	x := leaf("1")
	for range levels - 1 {
		x = op(api.OpAbs, x)
	}
	return x
}

// wide returns an expression with some nodes on two levels.
func wide(nodes int) api.Expr {
	x := api.Expr{Op: api.OpMax}
	for range nodes - 1 {
		x.Args = append(x.Args, leaf("1"))
	}
	return x
}

// P37.3
func TestCheckForm(t *testing.T) {
	digits := strings.Repeat("1", api.MaxNumber)
	for i, c := range []struct {
		f    api.Form
		n    int
		want api.Errno
	}{
		{formed("0"), 0, api.OK}, {formed("x"), -1, api.ErrRange}, {formed("x"), 65, api.ErrRange}, {formed("-1/2", 0, "1", 63, "-2/3"), 64, api.OK}, {formed(digits), 0, api.OK}, {formed(digits + "1"), 0, api.ErrLong}, {formed(""), 0, api.ErrSyntax}, {formed("2/4"), 0, api.ErrForm}, {formed("1/0"), 0, api.ErrZero},
		{api.Form{Constant: "x", Terms: make([]api.Term, 65)}, 0, api.ErrSyntax}, {api.Form{Constant: "0", Terms: make([]api.Term, 65)}, 0, api.ErrLimit}, {formed("0", 0, "x"), 0, api.ErrRange}, {formed("0", -1, "1"), 2, api.ErrRange}, {formed("0", 2, "1"), 2, api.ErrRange}, {formed("0", 1, "1", 1, "x"), 2, api.ErrOrder}, {formed("0", 1, "1", 0, "1"), 2, api.ErrOrder}, {formed("0", 1, "1", 2, "1"), 2, api.ErrRange}, {formed("0", 1, "x"), 2, api.ErrSyntax}, {formed("0", 1, "-"+digits), 2, api.ErrLong}, {formed("0", 1, "0"), 2, api.ErrZero}, {formed("0", 0, "0", 0, "1"), 2, api.ErrZero},
	} {
		if e := CheckForm(c.f, c.n); e != c.want {
			t.Errorf("%d: CheckForm = %d, not %d", i, e, c.want)
		}
		if c.n >= 0 && c.n <= 64 {
			if e := CheckExpr(api.Expr{Form: c.f}, c.n); e != c.want {
				t.Errorf("%d: CheckExpr = %d, not %d", i, e, c.want)
			}
		}
	}
}

// P37.3
func TestCheckExpr(t *testing.T) {
	bad := leaf("x")
	for i, c := range []struct {
		x    api.Expr
		n    int
		want api.Errno
	}{
		{op(7), -1, api.ErrRange}, {op(7), 65, api.ErrRange}, {op(7), 64, api.ErrKind}, {op(-1), 0, api.ErrKind}, {api.Expr{}, 0, api.ErrSyntax},
		{deep(MaxDepth), 0, api.OK}, {deep(MaxDepth + 1), 0, api.ErrDepth}, {wide(MaxNodes), 0, api.OK}, {wide(MaxNodes + 1), 0, api.ErrLimit}, {op(api.OpAdd, bad, deep(MaxDepth)), 0, api.ErrSyntax}, {op(api.OpAdd, deep(MaxDepth), bad), 0, api.ErrDepth}, {op(api.OpAdd, wide(MaxNodes), bad), 0, api.ErrLimit},
		{op(api.OpAdd, append(wide(MaxNodes-7).Args, deep(8))...), 0, api.ErrLimit}, {op(api.OpAdd, append(wide(MaxNodes-8).Args, deep(8))...), 0, api.ErrDepth},
		{op(api.OpForm, leaf("1")), 0, api.ErrForm}, {api.Expr{Form: formed("x"), Args: []api.Expr{leaf("1")}}, 0, api.ErrForm}, {api.Expr{Form: formed("x"), Factor: "1"}, 0, api.ErrForm},
		{op(api.OpAdd), 0, api.ErrForm}, {op(api.OpMin), 0, api.ErrForm}, {op(api.OpMax), 0, api.ErrForm}, {op(api.OpAbs), 0, api.ErrForm}, {op(api.OpAbs, bad, bad), 0, api.ErrForm}, {api.Expr{Op: api.OpScale, Factor: "x"}, 0, api.ErrForm}, {api.Expr{Op: api.OpScale, Factor: "x", Args: []api.Expr{bad, bad}}, 0, api.ErrForm},
		{api.Expr{Op: api.OpAdd, Form: formed("1"), Args: []api.Expr{leaf("1")}}, 0, api.ErrForm}, {api.Expr{Op: api.OpScale, Factor: "x", Form: formed("", 0, "1"), Args: []api.Expr{leaf("1")}}, 0, api.ErrForm}, {api.Expr{Op: api.OpMax, Factor: "1", Args: []api.Expr{leaf("1")}}, 0, api.ErrForm}, {api.Expr{Op: api.OpAbs, Factor: "1", Args: []api.Expr{leaf("1")}}, 0, api.ErrForm},
		{scaleBy("", bad), 0, api.ErrSyntax}, {scaleBy("2/4", leaf("1")), 0, api.ErrForm}, {scaleBy(strings.Repeat("1", 401), leaf("1")), 0, api.ErrLong}, {scaleBy("0", leaf("1")), 0, api.OK}, {scaleBy("-1/2", bad), 0, api.ErrSyntax}, {op(api.OpMin, leaf("1"), leaf("01")), 0, api.ErrForm}, {op(api.OpMin, leaf("1"), leaf("0", 1, "1")), 1, api.ErrRange}, {op(api.OpMin, leaf("1"), op(api.OpAdd, leaf("0", 1, "1"))), 2, api.OK},
	} {
		if e := CheckExpr(c.x, c.n); e != c.want {
			t.Errorf("%d: CheckExpr = %d, not %d", i, e, c.want)
		}
	}
}

// P37.4
func TestForms(t *testing.T) {
	f, g := formed("1/2", 0, "2", 3, "-1/3"), formed("-1/2", 1, "1", 3, "1/3", 5, "7")
	if sum := Add(f, g); !Equal(api.Expr{Form: sum}, leaf("0", 0, "2", 1, "1", 5, "7")) {
		t.Errorf("Add = %v", sum)
	}
	if double := Scale(f, rational.From(-2)); !Equal(api.Expr{Form: double}, leaf("-1", 0, "-4", 3, "2/3")) {
		t.Errorf("Scale = %v", double)
	}
	if zero := Scale(f, rational.From(0)); !Equal(api.Expr{Form: zero}, leaf("0")) {
		t.Errorf("Scale = %v", zero)
	}
	if sum := Add(f, Scale(f, rational.From(-1))); !Equal(api.Expr{Form: sum}, leaf("0")) {
		t.Errorf("Add = %v", sum)
	}
	at := numbers("1", "2", "3", "3/2")
	if v, e := Value(f, at); v.Number() != "2" || e != api.OK {
		t.Errorf("Value = %s, %d", v.Number(), e)
	}
	if v, e := Value(f, at[:3]); v.Sign() != 0 || e != api.ErrSize {
		t.Errorf("Value = %s, %d", v.Number(), e)
	}
	if v, e := Value(formed("-7"), nil); v.Number() != "-7" || e != api.OK {
		t.Errorf("Value = %s, %d", v.Number(), e)
	}
	// A sum shares no memory with what is added.
	sum := Add(f, formed("0"))
	sum.Terms[0].Dimension = 9
	if f.Terms[0].Dimension != 0 {
		t.Error("a form is changed")
	}
}

// P37.5
func TestEvaluateAndBounds(t *testing.T) {
	l := []api.Dimension{{Name: "a", Nominal: 2, Lower: -1, Upper: 1}, {Name: "b", Nominal: -5, Lower: 0, Upper: 10}}
	a, b := leaf("0", 0, "1"), leaf("0", 1, "1")
	at := numbers("5/2", "-3")
	for i, c := range []struct {
		x                api.Expr
		value, low, high api.Number
	}{
		{leaf("1", 0, "2", 1, "-1"), "9", "-2", "12"}, {op(api.OpAdd, a, scaleBy("-1", a)), "0", "-2", "2"}, {op(api.OpAdd, a, b, leaf("1/2")), "0", "-7/2", "17/2"}, {scaleBy("-2", b), "6", "-10", "10"}, {scaleBy("1/2", b), "-3/2", "-5/2", "5/2"}, {scaleBy("0", b), "0", "0", "0"},
		{op(api.OpMin, a, b), "-3", "-5", "3"}, {op(api.OpMin, a, b, leaf("2")), "-3", "-5", "2"}, {op(api.OpMax, a, b), "5/2", "1", "5"}, {op(api.OpMax, b), "-3", "-5", "5"}, {op(api.OpAbs, b), "3", "0", "5"}, {op(api.OpAbs, a), "5/2", "1", "3"}, {op(api.OpAbs, scaleBy("-1", a)), "5/2", "1", "3"}, {op(api.OpAbs, leaf("-1", 0, "1")), "3/2", "0", "2"}, {op(api.OpAbs, leaf("-3", 0, "1")), "1/2", "0", "2"}, {op(api.OpAbs, leaf("-2", 1, "1")), "5", "0", "7"},
	} {
		if v, e := Evaluate(c.x, at); v.Number() != c.value || e != api.OK {
			t.Errorf("%d: Evaluate = %s, %d", i, v.Number(), e)
		}
		if low, high, e := Bounds(c.x, l); low.Number() != c.low || high.Number() != c.high || e != api.OK {
			t.Errorf("%d: Bounds = %s, %s, %d", i, low.Number(), high.Number(), e)
		}
		for n := range 2 {
			uses := slices.Contains(Uses(c.x), n) || slices.Contains(Uses(c.x), 1)
			if v, e := Evaluate(c.x, at[:n]); uses != (e == api.ErrSize) || uses && v.Sign() != 0 {
				t.Errorf("%d: Evaluate = %s, %d", i, v.Number(), e)
			}
			if low, high, e := Bounds(c.x, l[:n]); uses != (e == api.ErrSize) || uses && (low.Sign() != 0 || high.Sign() != 0) {
				t.Errorf("%d: Bounds = %s, %s, %d", i, low.Number(), high.Number(), e)
			}
		}
	}
}

// P37.6
func TestLinearUsesEqual(t *testing.T) {
	a, b, c := leaf("0", 0, "1"), leaf("3", 1, "2"), leaf("0", 2, "1")
	magnitude := op(api.OpAbs, a)
	for i, c := range []struct {
		x    api.Expr
		want api.Form
		ok   bool
		uses []int
	}{
		{b, formed("3", 1, "2"), true, []int{1}}, {op(api.OpAdd, a, b, scaleBy("-1", a)), formed("3", 1, "2"), true, []int{0, 1}}, {scaleBy("1/2", op(api.OpAdd, c, b)), formed("3/2", 1, "1", 2, "1/2"), true, []int{1, 2}}, {scaleBy("0", magnitude), formed("0"), true, []int{0}}, {scaleBy("1", magnitude), api.Form{}, false, []int{0}}, {op(api.OpMin, b), formed("3", 1, "2"), true, []int{1}}, {op(api.OpMax, op(api.OpMin, a)), formed("0", 0, "1"), true, []int{0}}, {op(api.OpMin, a, a), api.Form{}, false, []int{0}}, {op(api.OpMin, magnitude), api.Form{}, false, []int{0}}, {op(api.OpAbs, leaf("1")), api.Form{}, false, nil}, {op(api.OpAdd, c, magnitude, c), api.Form{}, false, []int{0, 2}}, {leaf("5"), formed("5"), true, nil},
	} {
		f, ok := Linear(c.x)
		if ok != c.ok || !Equal(api.Expr{Form: f}, api.Expr{Form: c.want}) {
			t.Errorf("%d: Linear = %v, %t", i, f, ok)
		}
		if l := Uses(c.x); !slices.Equal(l, c.uses) {
			t.Errorf("%d: Uses = %v", i, l)
		}
	}
	if !Equal(api.Expr{Args: []api.Expr{}, Form: api.Form{Terms: []api.Term{}}}, api.Expr{}) {
		t.Error("nil and empty lists are different")
	}
	x := scaleBy("2", op(api.OpAdd, a, b))
	for i, change := range []func(x *api.Expr){
		func(x *api.Expr) { x.Op = 5 }, func(x *api.Expr) { x.Factor = "3" }, func(x *api.Expr) { x.Form.Constant = "0" }, func(x *api.Expr) { x.Form.Terms = a.Form.Terms }, func(x *api.Expr) { x.Args = nil }, func(x *api.Expr) { x.Args = []api.Expr{a} }, func(x *api.Expr) { x.Args = []api.Expr{op(api.OpAdd, a, leaf("3", 1, "1"))} }, func(x *api.Expr) { x.Args = []api.Expr{op(api.OpAdd, a, leaf("3", 0, "2"))} }, func(x *api.Expr) { x.Args = []api.Expr{op(api.OpAdd, b, a)} },
	} {
		y := x
		change(&y)
		if Equal(x, y) || Equal(y, x) || !Equal(x, x) {
			t.Errorf("%d: Equal", i)
		}
	}
}

// P37.6
func TestNormal(t *testing.T) {
	a, b, c := leaf("0", 0, "1"), leaf("0", 1, "1"), leaf("0", 2, "1")
	minus := func(x api.Expr) api.Expr { return scaleBy("-1", x) }
	abs := func(x api.Expr) api.Expr { return op(api.OpAbs, x) }
	twoB := leaf("-1", 1, "2")
	for i, k := range []struct{ x, want api.Expr }{
		{op(api.OpMin, a, twoB, op(api.OpMin, a, c)), op(api.OpMin, a, twoB, c)},
		{scaleBy("-2", op(api.OpMax, a, abs(b))), op(api.OpMin, leaf("0", 0, "-2"), scaleBy("-2", abs(b)))},
		{op(api.OpAdd, a, minus(a)), leaf("0")},
		// 1
		{scaleBy("0", abs(a)), leaf("0")}, {op(api.OpMin, a), a}, {op(api.OpMax, op(api.OpAdd, a, leaf("2", 0, "1"))), leaf("2", 0, "2")},
		// 2
		{op(api.OpAdd, abs(b), a, leaf("1"), abs(c), minus(a)), op(api.OpAdd, leaf("1"), abs(b), abs(c))}, {op(api.OpAdd, abs(b), a, minus(a)), abs(b)}, {op(api.OpAdd, a, op(api.OpAdd, abs(b), op(api.OpAdd, leaf("3"), abs(b)))), op(api.OpAdd, leaf("3", 0, "1"), abs(b), abs(b))}, {op(api.OpAdd, abs(b)), abs(b)}, {op(api.OpAdd, abs(leaf("-2")), leaf("-2"), abs(leaf("0"))), leaf("0")}, {op(api.OpAdd, abs(leaf("-2")), a), leaf("2", 0, "1")},
		// 3
		{scaleBy("2", op(api.OpAdd, abs(b), a)), op(api.OpAdd, leaf("0", 0, "2"), scaleBy("2", abs(b)))}, {scaleBy("2", op(api.OpMax, a, b)), op(api.OpMax, leaf("0", 0, "2"), leaf("0", 1, "2"))}, {scaleBy("-1", op(api.OpMin, a, op(api.OpMax, b, c))), op(api.OpMax, leaf("0", 0, "-1"), op(api.OpMin, leaf("0", 1, "-1"), leaf("0", 2, "-1")))}, {scaleBy("2", scaleBy("-3", abs(a))), scaleBy("-6", abs(a))}, {scaleBy("2", scaleBy("1/2", abs(a))), abs(a)}, {scaleBy("1", abs(a)), abs(a)}, {scaleBy("3", abs(leaf("-2"))), leaf("6")}, {scaleBy("2", op(api.OpMin, a, a)), leaf("0", 0, "2")}, {scaleBy("-1", op(api.OpAdd, abs(b), scaleBy("-1", abs(c)))), op(api.OpAdd, scaleBy("-1", abs(b)), abs(c))},
		// 4
		{op(api.OpMin, a, a), a}, {op(api.OpMax, abs(a), scaleBy("1", abs(a))), abs(a)}, {op(api.OpMax, a, op(api.OpMin, b, op(api.OpMax, c))), op(api.OpMax, a, op(api.OpMin, b, c))}, {op(api.OpMax, a, op(api.OpMin, op(api.OpMax, a, b))), op(api.OpMax, a, b)}, {op(api.OpMin, leaf("1"), leaf("2")), op(api.OpMin, leaf("1"), leaf("2"))}, {op(api.OpMin, scaleBy("-1", op(api.OpMax, a, b)), c), op(api.OpMin, leaf("0", 0, "-1"), leaf("0", 1, "-1"), c)},
		// 5
		{abs(leaf("-3")), leaf("3")}, {abs(leaf("5")), leaf("5")}, {abs(leaf("3", 0, "-2", 1, "1")), abs(leaf("-3", 0, "2", 1, "-1"))}, {abs(leaf("-3", 1, "2", 2, "-1")), abs(leaf("-3", 1, "2", 2, "-1"))}, {abs(op(api.OpMin, a, a)), abs(a)}, {abs(scaleBy("-1", abs(a))), abs(scaleBy("-1", abs(a)))}, {abs(abs(leaf("-3"))), leaf("3")}, {abs(op(api.OpAdd, a, b)), abs(leaf("0", 0, "1", 1, "1"))},
	} {
		if got := Normal(k.x); !Equal(got, k.want) {
			t.Errorf("%d: Normal = %v, not %v", i, got, k.want)
		}
	}
}

func randomExpr(r *rand.Rand, levels int) api.Expr {
	kind := r.Intn(6)
	if levels == 1 || kind == api.OpForm {
		x := leaf(fmt.Sprint(r.Intn(5) - 2))
		for d := range 3 {
			if n := r.Intn(5) - 2; n != 0 && r.Intn(2) == 0 {
				x.Form.Terms = append(x.Form.Terms, api.Term{Dimension: d, Factor: api.Number(fmt.Sprint(n))})
			}
		}
		return x
	}
	x := api.Expr{Op: kind}
	if kind == api.OpScale {
		x.Factor = []api.Number{"0", "-1/2", "-1", "2", "1"}[r.Intn(5)]
	}
	for i := range 3 {
		if i == 0 || kind != api.OpScale && kind != api.OpAbs && r.Intn(2) == 0 {
			x.Args = append(x.Args, randomExpr(r, levels-1))
		}
	}
	return x
}

func ratOf(n api.Number) *big.Rat {
	v, _ := new(big.Rat).SetString(string(n))
	return v
}

// slowValue returns the value of an expression, calculated without package rational.
func slowValue(x api.Expr, at []*big.Rat) *big.Rat {
	if x.Op == api.OpForm {
		v := ratOf(x.Form.Constant)
		for _, t := range x.Form.Terms {
			v.Add(v, new(big.Rat).Mul(ratOf(t.Factor), at[t.Dimension]))
		}
		return v
	}
	v := slowValue(x.Args[0], at)
	for _, y := range x.Args[1:] {
		w := slowValue(y, at)
		if x.Op == api.OpAdd {
			v.Add(v, w)
		} else if (x.Op == api.OpMin) == (w.Cmp(v) < 0) {
			v = w
		}
	}
	switch x.Op {
	case api.OpScale:
		v.Mul(v, ratOf(x.Factor))
	case api.OpAbs:
		v.Abs(v)
	}
	return v
}

// P37.7
func TestConsequences(t *testing.T) {
	r := rand.New(rand.NewSource(1))
	l := []api.Dimension{{Name: "a", Nominal: 2, Lower: -3, Upper: 1}, {Name: "b", Nominal: -5, Lower: 0, Upper: 4}, {Name: "c"}}
	for range 3000 {
		x := randomExpr(r, 1+r.Intn(4))
		before := fmt.Sprint(x)
		if e := CheckExpr(x, 3); e == api.ErrLimit {
			continue
		} else if e != api.OK {
			t.Fatalf("CheckExpr: %d", e)
		}
		n := Normal(x)
		if !Equal(Normal(n), n) {
			t.Fatalf("the normal form of %v is %v, and its normal form %v", x, n, Normal(n))
		}
		low, high, _ := Bounds(x, l)
		isLow, isHigh := false, false
		normalLow, normalHigh, _ := Bounds(n, l)
		for k := range 8 {
			// Corners of the ranges, some of them replaced by values inside.
			at := make([]rational.Rat, 3)
			for i, d := range l {
				a, b := Range(d)
				at[i] = rational.From([]int{a, b}[k>>i&1])
			}
			v, e := Evaluate(n, at)
			isLow, isHigh = isLow || rational.Compare(v, normalLow) == 0, isHigh || rational.Compare(v, normalHigh) == 0
			at[0] = rational.From(r.Intn(5) - 1)
			v, e = Evaluate(x, at)
			w, _ := Evaluate(n, at)
			slow := slowValue(x, []*big.Rat{ratOf(at[0].Number()), ratOf(at[1].Number()), ratOf(at[2].Number())})
			if e != api.OK || string(v.Number()) != slow.RatString() || rational.Compare(v, w) != 0 {
				t.Fatalf("the value of %v is %s, that of %v is %s", x, v.Number(), n, w.Number())
			}
			if rational.Compare(v, low) < 0 || rational.Compare(v, high) > 0 {
				t.Fatalf("the value of %v is not within its bounds", x)
			}
		}
		if _, ok := Linear(x); ok && (!isLow || !isHigh) {
			t.Fatalf("the bounds of %v are not attained", n)
		}
		if checkZeros(n) || fmt.Sprint(x) != before {
			t.Fatalf("%v has the normal form %v", x, n)
		}
	}
}

// checkZeros reports whether a form inside has a factor 0.
func checkZeros(x api.Expr) bool {
	return slices.ContainsFunc(x.Form.Terms, func(t api.Term) bool { return t.Factor == "0" }) || slices.ContainsFunc(x.Args, checkZeros)
}

// Normal forms share no memory with expressions.
func TestMemory(t *testing.T) {
	x := op(api.OpMin, leaf("1", 0, "1"), op(api.OpAbs, leaf("1", 1, "1")))
	n := Normal(x)
	n.Args[0].Form.Terms[0].Dimension = 7
	n.Args[1].Args[0].Form.Terms[0].Dimension = 7
	f, _ := Linear(x.Args[0])
	f.Terms[0].Dimension = 7
	if x.Args[0].Form.Terms[0].Dimension != 0 || x.Args[1].Args[0].Form.Terms[0].Dimension != 1 {
		t.Error("an expression is changed")
	}
}
