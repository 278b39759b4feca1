package stackup

import (
	"fmt"
	"math/rand"
	"slices"
	"strings"
	"testing"

	"dowel/api"
	"dowel/rational"
)

// formed returns a form with a constant and terms, given as dimension and factor in turn.
func formed(constant string, terms ...any) api.Form {
	f := api.Form{Constant: api.Number(constant)}
	for i := 0; i < len(terms); i += 2 {
		f.Terms = append(f.Terms, api.Term{Dimension: terms[i].(int), Factor: api.Number(terms[i+1].(string))})
	}
	return f
}

func numbers(s string) []api.Number {
	var l []api.Number
	for _, n := range strings.Fields(s) {
		l = append(l, api.Number(n))
	}
	return l
}

// two is the problem of the document, with its constraint.
func two() Problem {
	return Problem{
		Dimensions:  []api.Dimension{{Name: "a", Nominal: 10000, Lower: -100, Upper: 50}, {Name: "b", Nominal: 4000, Lower: -20, Upper: 20}},
		Constraints: []api.Constraint{{Name: "c", Form: formed("-14000", 0, "1", 1, "1")}},
	}
}

// P40.1
func TestCheck(t *testing.T) {
	const most = api.MaxLength
	long := make([]api.Dimension, 65)
	rules := make([]api.Constraint, 65)
	for i := range long {
		long[i].Name = fmt.Sprint("d", i)
		rules[i] = api.Constraint{Name: fmt.Sprint("d", i), Form: formed("0")}
	}
	dims := func(l ...api.Dimension) Problem { return Problem{Dimensions: l} }
	for i, c := range []struct {
		p    Problem
		want api.Errno
	}{
		{Problem{}, api.OK}, {two(), api.OK}, {Problem{long[:64], rules[:64]}, api.OK}, {Problem{make([]api.Dimension, 65), nil}, api.ErrLimit}, {Problem{make([]api.Dimension, 1), rules}, api.ErrLimit},
		{dims(api.Dimension{Lower: 1}), api.ErrName}, {dims(api.Dimension{Name: "a b"}), api.ErrName}, {dims(api.Dimension{Name: strings.Repeat("x", 41)}), api.ErrName}, {dims(api.Dimension{Name: "a"}, api.Dimension{Name: "a", Nominal: most + 1}), api.ErrDuplicate}, {dims(api.Dimension{Name: "a", Nominal: most + 1}), api.ErrRange}, {dims(api.Dimension{Name: "a", Lower: -most - 1}), api.ErrRange}, {dims(api.Dimension{Name: "a", Lower: 5, Upper: most + 1}), api.ErrRange}, {dims(api.Dimension{Name: "a", Nominal: -most, Lower: most + 1}), api.ErrRange}, {dims(api.Dimension{Name: "a", Lower: 1}), api.ErrOrder}, {dims(api.Dimension{Name: "a", Nominal: -most, Lower: -most, Upper: most}), api.OK}, {dims(api.Dimension{Name: "a", Lower: 1}, api.Dimension{}), api.ErrOrder},
		{Problem{long[:2], []api.Constraint{{}}}, api.ErrName}, {Problem{long[:2], []api.Constraint{{Name: "a", Form: formed("0")}, {Name: "a"}}}, api.ErrDuplicate}, {Problem{long[:2], []api.Constraint{{Name: "a", Form: formed("0")}, {Name: "b"}}}, api.ErrSyntax}, {Problem{long[:2], []api.Constraint{{Name: "d1", Form: formed("0", 2, "1")}}}, api.ErrNotFound}, {Problem{nil, []api.Constraint{{Name: "d1", Form: formed("1")}}}, api.OK},
	} {
		if e := Check(c.p); e != c.want {
			t.Errorf("%d: Check = %d, not %d", i, e, c.want)
		}
		if c.want == api.OK {
			continue
		}
		ok, e1 := Permitted(c.p, nil)
		greatest, e2 := Greatest(c.p, api.Form{})
		least, e3 := Least(c.p, api.Form{})
		e4 := Verify(c.p, api.Form{}, true, api.Worst{})
		report, e5 := Examine(c.p, api.Requirement{})
		corner, e6 := Corner(c.p, api.Form{}, true)
		if ok || greatest.Value != "" || least.Value != "" || report.Least.Value != "" || report.Met || corner != nil {
			t.Errorf("%d: results with an error", i)
		}
		for k, e := range []api.Errno{e1, e2, e3, e4, e5, e6} {
			if e != c.want {
				t.Errorf("%d, %d: error %d, not %d", i, k, e, c.want)
			}
		}
	}
}

// P40.1
func TestCheckForm(t *testing.T) {
	digits := strings.Repeat("1", api.MaxNumber)
	for i, c := range []struct {
		n    int
		f    api.Form
		want api.Errno
	}{
		{0, formed("0"), api.OK}, {64, formed("-1/2", 0, "2", 63, "-1/2"), api.OK}, {-1, formed("x"), api.ErrRange}, {65, formed("x"), api.ErrRange}, {2, api.Form{Constant: "x", Terms: make([]api.Term, 65)}, api.ErrSyntax}, {2, formed(digits), api.OK}, {2, formed("-" + digits), api.ErrLong}, {2, api.Form{Constant: "0", Terms: make([]api.Term, 65)}, api.ErrLimit}, {2, formed("0", 2, "x"), api.ErrNotFound}, {2, formed("0", -1, "x"), api.ErrNotFound}, {2, formed("0", 1, "1", 0, "x"), api.ErrOrder}, {2, formed("0", 1, "1", 1, "x"), api.ErrOrder}, {2, formed("0", 1, "1", 2, "1"), api.ErrNotFound}, {2, formed("0", 1, "x"), api.ErrSyntax}, {2, formed("0", 1, "2/4"), api.ErrForm}, {2, formed("0", 1, "1"+digits), api.ErrLong}, {2, formed("0", 1, "0"), api.ErrZero},
	} {
		if e := CheckForm(c.n, c.f); e != c.want {
			t.Errorf("%d: CheckForm = %d, not %d", i, e, c.want)
		}
		if v, e := Value(c.n, c.f, nil); c.want != api.OK && (v != "" || e != c.want) {
			t.Errorf("%d: Value = %s, %d", i, v, e)
		}
		if c.n != 2 || c.want == api.OK {
			continue
		}
		corner, e1 := Corner(two(), c.f, true)
		greatest, e2 := Greatest(two(), c.f)
		least, e3 := Least(two(), c.f)
		e4 := Verify(two(), c.f, false, api.Worst{})
		report, e5 := Examine(two(), api.Requirement{Name: "r", Gap: api.Expr{Form: c.f}, Low: "x"})
		if corner != nil || greatest.Value != "" || least.Value != "" || report.Met || !slices.Equal([]api.Errno{e1, e2, e3, e4, e5}, slices.Repeat([]api.Errno{c.want}, 5)) {
			t.Errorf("%d: %d, %d, %d, %d, %d", i, e1, e2, e3, e4, e5)
		}
	}
}

// P40.2
func TestValueAndPermitted(t *testing.T) {
	f := formed("1/2", 0, "2", 1, "-1/3")
	for i, c := range []struct {
		at   string
		want api.Number
		e    api.Errno
	}{
		{"1 3", "3/2", 0}, {"0 0", "1/2", 0}, {"1", "", api.ErrSize}, {"x 1 2", "", api.ErrSize}, {"1 x", "", api.ErrSyntax}, {"1/0 x", "", api.ErrZero}, {"1 2/4", "", api.ErrForm},
	} {
		if v, e := Value(2, f, numbers(c.at)); v != c.want || e != c.e {
			t.Errorf("%d: Value = %s, %d", i, v, e)
		}
	}
	if v, e := Value(0, formed("7"), nil); v != "7" || e != api.OK {
		t.Errorf("Value = %s, %d", v, e)
	}
	for i, c := range []struct {
		at   string
		want bool
		e    api.Errno
	}{
		{"10050 3980", false, 0}, {"10020 3980", true, 0}, {"20041/2 3980", false, 0}, {"9900 3980", true, 0}, {"19799/2 3980", false, 0}, {"9900 4020", true, 0}, {"9900 40201/10", false, 0}, {"9900 3979", false, 0}, {"10051 3940", false, 0}, {"9900", false, api.ErrSize}, {"9900 x", false, api.ErrSyntax},
	} {
		if ok, e := Permitted(two(), numbers(c.at)); ok != c.want || e != c.e {
			t.Errorf("%d: Permitted = %t, %d", i, ok, e)
		}
	}
	if ok, e := Permitted(Problem{Constraints: []api.Constraint{{Name: "c", Form: formed("1")}}}, nil); ok || e != api.OK {
		t.Errorf("Permitted = %t, %d", ok, e)
	}
}

// P40.3
func TestWorstCases(t *testing.T) {
	free := Problem{Dimensions: two().Dimensions}
	gap := formed("0", 0, "1", 1, "-1")
	for i, c := range []struct {
		p               Problem
		f               api.Form
		greatest, least api.Number
	}{
		{free, gap, "6070", "5880"}, {two(), gap, "6040", "5880"}, {two(), formed("1/2", 0, "1", 1, "1"), "28001/2", "27761/2"}, {two(), formed("-7"), "-7", "-7"}, {Problem{}, formed("3"), "3", "3"}, {free, formed("5", 1, "-2"), "-7955", "-8035"},
	} {
		greatest, e := Greatest(c.p, c.f)
		least, f := Least(c.p, c.f)
		if greatest.Value != c.greatest || least.Value != c.least || e != api.OK || f != api.OK {
			t.Errorf("%d: %s, %s, %d, %d", i, greatest.Value, least.Value, e, f)
		}
		if e, f := Verify(c.p, c.f, true, greatest), Verify(c.p, c.f, false, least); e != api.OK || f != api.OK {
			t.Errorf("%d: Verify = %d, %d", i, e, f)
		}
	}
	w, _ := Greatest(free, gap)
	if !slices.Equal(w.At, numbers("10050 3980")) || len(w.Cases) != 1 || len(w.Cases[0].Choice) != 0 || !slices.Equal(w.Cases[0].Duals, numbers("1 0 0 1")) {
		t.Errorf("Greatest = %v", w)
	}
	impossible := two()
	impossible.Constraints[0].Form.Constant = "-13879"
	for i, p := range []Problem{impossible, {Constraints: []api.Constraint{{Name: "c", Form: formed("1/2")}}}} {
		f := formed("0")
		greatest, e1 := Greatest(p, f)
		least, e2 := Least(p, f)
		report, e3 := Examine(p, api.Requirement{Name: "r", Gap: api.Expr{Form: f}})
		if greatest.Value != "" || greatest.At != nil || least.Value != "" || report.Met || e1 != api.ErrInfeasible || e2 != api.ErrInfeasible || e3 != api.ErrInfeasible {
			t.Errorf("%d: %d, %d, %d", i, e1, e2, e3)
		}
		if e := Verify(p, f, true, api.Worst{Value: "0", Cases: []api.Case{{}}}); e != api.ErrCertificate {
			t.Errorf("%d: Verify = %d", i, e)
		}
	}
}

// P40.3
func TestVerify(t *testing.T) {
	gap := formed("0", 0, "1", 1, "-1")
	good := func() api.Worst {
		return api.Worst{Value: "6040", At: numbers("10020 3980"), Cases: []api.Case{{Duals: numbers("0 0 0 2 1")}}}
	}
	if e := Verify(two(), gap, true, good()); e != api.OK {
		t.Fatalf("Verify = %d", e)
	}
	if e := Verify(two(), gap, false, good()); e != api.ErrCertificate {
		t.Errorf("Verify = %d", e)
	}
	least := api.Worst{Value: "5880", At: numbers("9900 4020"), Cases: []api.Case{{Duals: numbers("0 1 1 0 0")}}}
	if e := Verify(two(), gap, false, least); e != api.OK {
		t.Errorf("Verify = %d", e)
	}
	for i, change := range []func(w *api.Worst){
		func(w *api.Worst) { w.Value = "6041" }, func(w *api.Worst) { w.Value = "12080/2" }, func(w *api.Worst) { w.Value = "" }, func(w *api.Worst) { w.At = numbers("10020 3981") }, func(w *api.Worst) { w.At = numbers("10019 3979") }, func(w *api.Worst) { w.At = numbers("10020") }, func(w *api.Worst) { w.At = numbers("10020 x") }, func(w *api.Worst) { w.At = nil },
		func(w *api.Worst) { w.Cases = nil }, func(w *api.Worst) { w.Cases = append(w.Cases, w.Cases[0]) }, func(w *api.Worst) { w.Cases[0].Choice = []int{0} }, func(w *api.Worst) { w.Cases[0].Duals = numbers("1 0 0 1 0") }, func(w *api.Worst) { w.Cases[0].Duals = numbers("0 0 0 2") }, func(w *api.Worst) { w.Cases[0].Duals = numbers("0 0 0 2 1 0") }, func(w *api.Worst) { w.Cases[0].Duals = numbers("0 0 0 2 2/2") }, func(w *api.Worst) { w.Cases[0].Duals = numbers("0 0 -1 1 1") }, func(w *api.Worst) { w.Cases[0].Duals = numbers("0 0 1 3 1") },
	} {
		w := good()
		change(&w)
		if e := Verify(two(), gap, true, w); e != api.ErrCertificate {
			t.Errorf("%d: Verify = %d", i, e)
		}
	}
	// A vector outside of the tolerances has the same value.
	w := good()
	w.At = numbers("10060 4020")
	if e := Verify(two(), gap, true, w); e != api.ErrCertificate {
		t.Errorf("Verify = %d", e)
	}
}

// P40.4
func TestExamine(t *testing.T) {
	gap := api.Expr{Form: formed("0", 0, "1", 1, "-1")}
	for i, c := range []struct {
		low, high, below, above api.Number
		met                     bool
	}{
		{"5900", "6100", "-20", "60", false}, {"5880", "6040", "0", "0", true}, {"5880", "", "0", "", true}, {"", "6040", "", "0", true}, {"", "", "", "", true}, {"5879", "12079/2", "1", "-1/2", false}, {"", "6039", "", "-1", false}, {"11761/2", "", "-1/2", "", false}, {"6000", "6000", "-120", "-40", false},
	} {
		r, e := Examine(two(), api.Requirement{Name: "r", Gap: gap, Low: c.low, High: c.high})
		if r.Below != c.below || r.Above != c.above || r.Met != c.met || r.Least.Value != "5880" || r.Greatest.Value != "6040" || e != api.OK {
			t.Errorf("%d: Examine = %v, %d", i, r, e)
		}
		if e, f := Verify(two(), gap.Form, false, r.Least), Verify(two(), gap.Form, true, r.Greatest); e != api.OK || f != api.OK {
			t.Errorf("%d: Verify = %d, %d", i, e, f)
		}
	}
	bad := api.Expr{Form: formed("x")}
	long := api.Number(strings.Repeat("1", api.MaxNumber+1))
	for i, c := range []struct {
		r    api.Requirement
		want api.Errno
	}{
		{api.Requirement{Gap: api.Expr{Op: 1}}, api.ErrName}, {api.Requirement{Name: "a b", Gap: bad}, api.ErrName}, {api.Requirement{Name: "r", Gap: api.Expr{Op: 1, Form: bad.Form}}, api.ErrKind}, {api.Requirement{Name: "r", Gap: api.Expr{Form: bad.Form, Args: []api.Expr{gap}}}, api.ErrKind}, {api.Requirement{Name: "r", Gap: api.Expr{Form: bad.Form, Factor: "1"}}, api.ErrKind}, {api.Requirement{Name: "r", Gap: bad, Low: "x"}, api.ErrSyntax}, {api.Requirement{Name: "r", Gap: api.Expr{Form: formed("0", 2, "1")}, Low: "x"}, api.ErrNotFound}, {api.Requirement{Name: "r", Gap: gap, Low: "2/4", High: "x"}, api.ErrForm}, {api.Requirement{Name: "r", Gap: gap, Low: "1", High: long}, api.ErrLong}, {api.Requirement{Name: "r", Gap: gap, High: "1/0"}, api.ErrZero}, {api.Requirement{Name: "r", Gap: gap, Low: "1", High: "1/2"}, api.ErrOrder}, {api.Requirement{Name: "r", Gap: gap, Low: "1", High: "1"}, api.OK},
	} {
		r, e := Examine(two(), c.r)
		if e != c.want || e != api.OK && (r.Met || r.Least.Value != "" || r.Below != "") {
			t.Errorf("%d: Examine = %v, %d", i, r, e)
		}
	}
}

// P40.5, P40.6
func TestCornerAddScale(t *testing.T) {
	p := two()
	p.Dimensions = append(p.Dimensions, api.Dimension{Name: "c", Lower: -3, Upper: 4})
	for i, c := range []struct {
		f               api.Form
		greatest, least string
	}{
		{formed("0", 0, "1", 1, "-1/2"), "10050 3980 -3", "9900 4020 -3"}, {formed("0", 2, "5"), "9900 3980 4", "9900 3980 -3"}, {formed("0", 2, "-5"), "9900 3980 -3", "9900 3980 4"}, {formed("0"), "9900 3980 -3", "9900 3980 -3"},
	} {
		greatest, e := Corner(p, c.f, true)
		least, f := Corner(p, c.f, false)
		if !slices.Equal(greatest, numbers(c.greatest)) || !slices.Equal(least, numbers(c.least)) || e != api.OK || f != api.OK {
			t.Errorf("%d: Corner = %v, %v, %d, %d", i, greatest, least, e, f)
		}
	}
	f, g := formed("1/2", 0, "2", 3, "-1/3"), formed("-1/2", 1, "1", 3, "1/3", 63, "7")
	if sum, e := Add(f, g); fmt.Sprint(sum) != fmt.Sprint(formed("0", 0, "2", 1, "1", 63, "7")) || e != api.OK {
		t.Errorf("Add = %v, %d", sum, e)
	}
	if double, e := Scale(f, "-2"); fmt.Sprint(double) != fmt.Sprint(formed("-1", 0, "-4", 3, "2/3")) || e != api.OK {
		t.Errorf("Scale = %v, %d", double, e)
	}
	if zero, e := Scale(f, "0"); fmt.Sprint(zero) != fmt.Sprint(formed("0")) || e != api.OK {
		t.Errorf("Scale = %v, %d", zero, e)
	}
	nines := strings.Repeat("9", api.MaxNumber)
	for i, c := range []struct {
		f, g   api.Form
		factor api.Number
		add    api.Errno
		scale  api.Errno
	}{
		{formed("x"), formed("2/4"), "x", api.ErrSyntax, api.ErrSyntax}, {formed("0"), formed("2/4"), "1/0", api.ErrForm, api.ErrZero}, {formed("0", 64, "1"), formed("0"), "1", api.ErrNotFound, api.ErrNotFound}, {formed("0", 63, "0"), formed("0"), "1", api.ErrZero, api.ErrZero}, {formed(nines), formed("1"), "-1", api.ErrLong, api.ErrLong}, {formed("0", 3, nines), formed("0", 3, "1"), "10", api.ErrLong, api.ErrLong}, {formed(nines), formed("-1"), "1", api.OK, api.OK}, {formed("0"), formed("0"), api.Number(nines + "9"), api.OK, api.ErrLong}, {formed("0", 3, nines), formed("0", 2, nines), "1", api.OK, api.OK},
	} {
		sum, e := Add(c.f, c.g)
		if e != c.add || e != api.OK && sum.Constant != "" {
			t.Errorf("%d: Add = %v, %d", i, sum, e)
		}
		multiple, e := Scale(c.f, c.factor)
		if e != c.scale || e != api.OK && multiple.Constant != "" {
			t.Errorf("%d: Scale = %v, %d", i, multiple, e)
		}
	}
}

func randomForm(r *rand.Rand, n int) api.Form {
	f := formed(fmt.Sprint(r.Intn(9) - 4))
	for d := range n {
		if k := r.Intn(7) - 3; k != 0 {
			f.Terms = append(f.Terms, api.Term{Dimension: d, Factor: api.Number(fmt.Sprint(k))})
		}
	}
	return f
}

func random(r *rand.Rand) Problem {
	var p Problem
	n := 1 + r.Intn(4)
	for i := range n {
		p.Dimensions = append(p.Dimensions, api.Dimension{Name: fmt.Sprint("d", i), Nominal: r.Intn(7) - 3, Lower: -r.Intn(3), Upper: r.Intn(3)})
	}
	for i := range r.Intn(4) {
		p.Constraints = append(p.Constraints, api.Constraint{Name: fmt.Sprint("c", i), Form: randomForm(r, n)})
	}
	return p
}

// vectors returns all permitted vectors of integers.
func vectors(p Problem) [][]api.Number {
	l := [][]api.Number{nil}
	for _, d := range p.Dimensions {
		var longer [][]api.Number
		for _, x := range l {
			for v := d.Nominal + d.Lower; v <= d.Nominal+d.Upper; v++ {
				longer = append(longer, append(slices.Clone(x), rational.From(v).Number()))
			}
		}
		l = longer
	}
	return slices.DeleteFunc(l, func(x []api.Number) bool {
		ok, _ := Permitted(p, x)
		return !ok
	})
}

func compare(a, b api.Number) int {
	x, _ := rational.Read(a)
	y, _ := rational.Read(b)
	return rational.Compare(x, y)
}

// P40.7
func TestConsequences(t *testing.T) {
	r := rand.New(rand.NewSource(1))
	bounded := 0
	for range 1500 {
		p := random(r)
		before := fmt.Sprint(p)
		n := len(p.Dimensions)
		f, g := randomForm(r, n), randomForm(r, n)
		greatest, e := Greatest(p, f)
		least, e2 := Least(p, f)
		inside := vectors(p)
		if e != e2 || e == api.ErrInfeasible && len(inside) > 0 {
			t.Fatalf("Greatest, Least: %d, %d with %d vectors", e, e2, len(inside))
		}
		if e == api.ErrInfeasible {
			continue
		}
		if Verify(p, f, true, greatest) != api.OK || Verify(p, f, false, least) != api.OK {
			t.Fatal("a worst case is not verified")
		}
		for _, x := range inside {
			if v, _ := Value(n, f, x); compare(v, greatest.Value) > 0 || compare(v, least.Value) < 0 {
				t.Fatalf("%v has the value %s, and %v is from %s to %s", x, v, f, least.Value, greatest.Value)
			}
		}
		for i, w := range []api.Worst{least, greatest} {
			if v, _ := Value(n, f, w.At); v != w.Value {
				t.Fatalf("the value %s is not attained at %v", w.Value, w.At)
			}
			if ok, _ := Permitted(p, w.At); !ok {
				t.Fatalf("%v is not permitted", w.At)
			}
			corner, _ := Corner(p, f, i == 1)
			v, _ := Value(n, f, corner)
			ok, _ := Permitted(p, corner)
			if c := compare(v, w.Value); ok != (c == 0) && ok || len(p.Constraints) == 0 && c != 0 {
				t.Fatalf("the corner %v has the value %s, the worst case is %s", corner, v, w.Value)
			}
		}
		negative, _ := Scale(f, "-1")
		if w, _ := Greatest(p, negative); compare(w.Value, negate(least.Value)) != 0 {
			t.Fatalf("Greatest of the negative form is %s, Least %s", w.Value, least.Value)
		}
		sum, _ := Add(f, g)
		other, _ := Greatest(p, g)
		both, _ := Greatest(p, sum)
		if compare(both.Value, add(greatest.Value, other.Value)) > 0 {
			t.Fatal("Greatest of a sum is greater than the sum")
		}
		narrow := Problem{p.Dimensions, append(slices.Clone(p.Constraints), api.Constraint{Name: "x", Form: randomForm(r, n)})}
		if w, e := Greatest(narrow, f); e == api.OK && compare(w.Value, greatest.Value) > 0 {
			t.Fatal("a further constraint makes Greatest greater")
		} else if e == api.OK && w.Value != greatest.Value {
			bounded++
		}
		checkReport(t, p, f, least, greatest)
		if fmt.Sprint(p) != before {
			t.Fatal("a problem is changed")
		}
	}
	if bounded < 50 {
		t.Errorf("%d constraints matter", bounded)
	}
}

func negate(n api.Number) api.Number {
	a, _ := rational.Read(n)
	return rational.Neg(a).Number()
}

func add(n, m api.Number) api.Number {
	a, _ := rational.Read(n)
	b, _ := rational.Read(m)
	return rational.Add(a, b).Number()
}

// checkReport asks for bounds around the worst cases.
func checkReport(t *testing.T, p Problem, f api.Form, least, greatest api.Worst) {
	for _, by := range []api.Number{"-1", "0", "1"} {
		q := api.Requirement{Name: "r", Gap: api.Expr{Form: f}, Low: add(least.Value, by), High: greatest.Value}
		if compare(q.Low, q.High) > 0 {
			continue
		}
		report, e := Examine(p, q)
		if e != api.OK || report.Met != (by != "1") || report.Above != "0" || report.Below != negate(by) {
			t.Fatalf("Examine = %v, %d", report, e)
		}
	}
}

// Full problems are solved in a short time.
func TestFullProblem(t *testing.T) {
	r := rand.New(rand.NewSource(1))
	var p Problem
	for i := range api.MaxDimensions {
		p.Dimensions = append(p.Dimensions, api.Dimension{Name: fmt.Sprint("d", i), Lower: -r.Intn(100), Upper: r.Intn(100)})
	}
	for i := range MaxConstraints {
		f := formed(fmt.Sprint(-r.Intn(100)))
		for d := range api.MaxDimensions {
			if r.Intn(8) == 0 {
				f.Terms = append(f.Terms, api.Term{Dimension: d, Factor: api.Number(fmt.Sprint(1 + r.Intn(9)))})
			}
		}
		p.Constraints = append(p.Constraints, api.Constraint{Name: fmt.Sprint("c", i), Form: f})
	}
	f := randomForm(r, api.MaxDimensions)
	w, e := Greatest(p, f)
	if e != api.OK || Verify(p, f, true, w) != api.OK {
		t.Errorf("Greatest: %d", e)
	}
}

// Results share no memory with problems.
func TestMemory(t *testing.T) {
	f := formed("1", 0, "1")
	sum, _ := Add(f, formed("0"))
	sum.Terms[0].Dimension = 9
	multiple, _ := Scale(f, "1")
	multiple.Terms[0].Dimension = 9
	if f.Terms[0].Dimension != 0 {
		t.Error("a form is changed")
	}
}
