package sensitivity

import (
	"fmt"
	"math/rand"
	"slices"
	"strings"
	"testing"

	"dowel/api"
	"dowel/rational"
	"dowel/stackup"
)

// formed returns a form with a constant and terms, given as dimension and factor in turn.
func formed(constant string, terms ...any) api.Form {
	f := api.Form{Constant: api.Number(constant)}
	for i := 0; i < len(terms); i += 2 {
		f.Terms = append(f.Terms, api.Term{Dimension: terms[i].(int), Factor: api.Number(terms[i+1].(string))})
	}
	return f
}

// two has the dimensions a from -10 to 10, and b from 0 to 30, and constraints.
func two(constraints ...api.Form) stackup.Problem {
	p := stackup.Problem{Dimensions: []api.Dimension{{Name: "a", Lower: -10, Upper: 10}, {Name: "b", Nominal: 20, Lower: -20, Upper: 10}}}
	for i, f := range constraints {
		p.Constraints = append(p.Constraints, api.Constraint{Name: fmt.Sprint("c", i), Form: f})
	}
	return p
}

func sum(constant string) api.Form { return formed(constant, 0, "1", 1, "1") }

func requirement(f api.Form, low, high api.Number) api.Requirement {
	return api.Requirement{Name: "r", Gap: api.Expr{Form: f}, Low: low, High: high}
}

// P42.1
func TestContributions(t *testing.T) {
	p := two()
	p.Dimensions = append(p.Dimensions, api.Dimension{Name: "c", Nominal: 7, Lower: 3, Upper: 3}, api.Dimension{Name: "d", Lower: -5, Upper: 5})
	for i, c := range []struct {
		f                     api.Form
		contributions, shares string
		ranking               []int
	}{
		{formed("9", 0, "1", 1, "-2"), "[20 60 0 0]", "[1/4 3/4 0 0]", []int{1, 0, 2, 3}}, {formed("9", 2, "4"), "[0 0 0 0]", "[0 0 0 0]", []int{0, 1, 2, 3}}, {formed("0", 0, "-1/2", 1, "1/3", 3, "1"), "[10 10 0 10]", "[1/3 1/3 0 1/3]", []int{0, 1, 3, 2}}, {formed("0", 1, "1/3", 2, "1", 3, "2"), "[0 10 0 20]", "[0 1/3 0 2/3]", []int{3, 1, 0, 2}},
	} {
		contributions, e1 := Contributions(p, c.f)
		shares, e2 := Shares(p, c.f)
		ranking, e3 := Ranking(p, c.f)
		if fmt.Sprint(contributions) != c.contributions || fmt.Sprint(shares) != c.shares || !slices.Equal(ranking, c.ranking) || e1+e2+e3 != api.OK {
			t.Errorf("%d: %v, %v, %v, %d, %d, %d", i, contributions, shares, ranking, e1, e2, e3)
		}
	}
	// What constraints permit is not asked for.
	if l, e := Contributions(two(sum("100")), sum("0")); fmt.Sprint(l) != "[20 30]" || e != api.OK {
		t.Errorf("Contributions = %v, %d", l, e)
	}
	if l, e := Shares(stackup.Problem{}, formed("1")); len(l) != 0 || e != api.OK {
		t.Errorf("Shares = %v, %d", l, e)
	}
}

// The first errors of all functions.
func TestFirstErrors(t *testing.T) {
	bad := two()
	bad.Dimensions[1].Name = "a"
	for i, c := range []struct {
		p         stackup.Problem
		f         api.Form
		dimension int
		want      []api.Errno // of the functions with a form, of Rate, of Prices and Critical, of Widen, of Room
	}{
		{bad, formed("x"), 5, []api.Errno{api.ErrDuplicate, api.ErrDuplicate, api.ErrDuplicate, api.ErrDuplicate, api.ErrDuplicate}}, {two(), formed("x"), 2, []api.Errno{api.ErrSyntax, api.ErrSyntax, api.ErrSyntax, api.ErrRange, api.ErrRange}}, {two(), formed("0", 2, "1"), 1, []api.Errno{api.ErrNotFound, api.ErrNotFound, api.ErrNotFound, api.OK, api.ErrNotFound}}, {two(sum("100")), sum("0"), 2, []api.Errno{api.OK, api.ErrRange, api.ErrInfeasible, api.ErrRange, api.ErrRange}}, {two(), sum("0"), -1, []api.Errno{api.OK, api.ErrRange, api.OK, api.ErrRange, api.ErrRange}}, {two(sum("100")), sum("0"), 1, []api.Errno{api.OK, api.ErrInfeasible, api.ErrInfeasible, api.OK, api.ErrInfeasible}},
	} {
		contributions, e1 := Contributions(c.p, c.f)
		shares, e2 := Shares(c.p, c.f)
		ranking, e3 := Ranking(c.p, c.f)
		rate, e4 := Rate(c.p, c.f, true, c.dimension, true)
		prices, e5 := Prices(c.p, c.f, false)
		critical, e6 := Critical(c.p, c.f, true)
		wide, e7 := Widen(c.p, c.dimension, true, 1)
		room, e8 := Room(c.p, requirement(c.f, "", ""), c.dimension, true)
		form, two := c.want[0], c.want[2]
		if got := []api.Errno{e1, e2, e3, e4, e5, e6, e7, e8}; !slices.Equal(got, []api.Errno{form, form, form, c.want[1], two, two, c.want[3], c.want[4]}) {
			t.Errorf("%d: %d", i, got)
		}
		if e1 != api.OK && (contributions != nil || shares != nil || ranking != nil) || e4 != api.OK && rate != (Price{}) || e5 != api.OK && (prices != nil || critical != nil) || e7 != api.OK && wide.Dimensions != nil || room != 0 {
			t.Errorf("%d: a result with an error", i)
		}
	}
}

// P42.2, P42.3
func TestPrices(t *testing.T) {
	for i, c := range []struct {
		p        stackup.Problem
		f        api.Form
		greatest bool
		want     string // Rate and Until of all prices
		critical []int
	}{
		{two(), formed("5", 0, "1", 1, "-2"), true, "0: 1: 2: 0:", []int{0, 1}}, {two(), formed("5", 0, "1", 1, "-2"), false, "-1: 0: 0: -2:", []int{0, 1}}, {two(), formed("0", 1, "1/3"), true, "0: 0: 0: 1/3:", []int{1}}, {two(), formed("0"), true, "0: 0: 0: 0:", nil},
		{two(sum("-12")), sum("0"), true, "0: 0: 0: 0:", nil}, {two(sum("-45")), sum("0"), true, "0: 1:5 0: 1:5", []int{0, 1}}, {two(sum("-45")), sum("0"), false, "-1: 0: -1: 0:", []int{0, 1}}, {two(sum("-40")), sum("0"), true, "0: 0: 0: 0:", nil},
		// The second constraint cuts the corner that the greatest value has from 5 on.
		{two(sum("-45"), formed("-26", 0, "2")), sum("0"), true, "0: 1:3 0: 1:5", []int{0, 1}},
		// A wider tolerance of a permits less of b, which counts less.
		{two(sum("-40")), formed("0", 0, "2", 1, "1"), true, "0: 1:30 0: 0:", []int{0}}, {two(sum("-81/2")), formed("0", 0, "2", 1, "1"), true, "0: 2:1/2 0: 1:1/2", []int{0, 1}},
		// The least value grows by what a lower deviation takes away from it.
		{two(formed("5", 0, "-1", 1, "-1")), sum("0"), false, "0: 0: 0: 0:", nil}, {two(formed("-25", 0, "-2", 1, "-2")), sum("3"), false, "-1:5/2 0: -1:5/2 0:", []int{0, 1}},
		{stackup.Problem{}, formed("1"), true, "", nil},
	} {
		prices, e := Prices(c.p, c.f, c.greatest)
		var l []string
		for k, x := range prices {
			l = append(l, string(x.Rate)+":"+string(x.Until))
			one, e := Rate(c.p, c.f, c.greatest, k/2, k%2 == 1)
			if x.Dimension != k/2 || x.Upper != (k%2 == 1) || one != x || e != api.OK {
				t.Errorf("%d: %v and %v, %d", i, x, one, e)
			}
		}
		critical, e2 := Critical(c.p, c.f, c.greatest)
		if strings.Join(l, " ") != c.want || e != api.OK || !slices.Equal(critical, c.critical) || e2 != api.OK {
			t.Errorf("%d: Prices = %v, %d, Critical = %v, %d", i, l, e, critical, e2)
		}
	}
}

// P42.4
func TestWiden(t *testing.T) {
	const most = api.MaxLength
	p := two(sum("-45"))
	p.Dimensions = append(p.Dimensions, api.Dimension{Name: "c", Lower: -most, Upper: -most}, api.Dimension{Name: "d", Lower: most, Upper: most})
	for i, c := range []struct {
		dimension int
		upper     bool
		by        int
		want      string
		e         api.Errno
	}{
		{0, true, 7, "{a 0 -10 17}", 0}, {1, false, 7, "{b 20 -27 10}", 0}, {1, true, 0, "{b 20 -20 10}", 0}, {0, true, -1, "", api.ErrRange}, {0, true, most - 10, "{a 0 -10 1073741824}", 0}, {0, true, most - 9, "", api.ErrRange}, {0, false, most - 10, "{a 0 -1073741824 10}", 0}, {0, false, most - 9, "", api.ErrRange}, {2, true, 2 * most, "{c 0 -1073741824 1073741824}", 0}, {2, true, 2*most + 1, "", api.ErrRange}, {2, false, 1, "", api.ErrRange}, {2, false, 0, "{c 0 -1073741824 -1073741824}", 0}, {3, true, 1, "", api.ErrRange}, {3, false, 2 * most, "{d 0 -1073741824 1073741824}", 0}, {3, false, 1<<63 - 1, "", api.ErrRange}, {4, true, 0, "", api.ErrRange},
	} {
		wide, e := Widen(p, c.dimension, c.upper, c.by)
		if e != c.e || e != api.OK && (wide.Dimensions != nil || wide.Constraints != nil) {
			t.Errorf("%d: Widen = %v, %d", i, wide, e)
		}
		if e != api.OK {
			continue
		}
		if fmt.Sprint(wide.Dimensions[c.dimension]) != c.want || fmt.Sprint(wide.Constraints) != fmt.Sprint(p.Constraints) {
			t.Errorf("%d: Widen = %v", i, wide)
		}
		wide.Dimensions[c.dimension] = p.Dimensions[c.dimension]
		if !slices.Equal(wide.Dimensions, p.Dimensions) {
			t.Errorf("%d: another dimension has changed", i)
		}
		wide.Constraints[0].Form.Terms[0].Dimension = 9
		if p.Constraints[0].Form.Terms[0].Dimension != 0 {
			t.Fatal("memory is shared")
		}
	}
}

// P42.5
func TestRoom(t *testing.T) {
	const most = api.MaxLength
	a, third := formed("0", 0, "1"), formed("0", 0, "1/3")
	for i, c := range []struct {
		p    stackup.Problem
		r    api.Requirement
		want [4]int // of the lower and the upper deviations
	}{
		{two(), requirement(a, "", "15"), [4]int{most - 10, 5, most - 20, most - 10}}, {two(), requirement(a, "-12", "15"), [4]int{2, 5, most - 20, most - 10}}, {two(), requirement(a, "-10", "10"), [4]int{0, 0, most - 20, most - 10}}, {two(), requirement(a, "-31/3", "31/3"), [4]int{0, 0, most - 20, most - 10}}, {two(), requirement(third, "-6", "4"), [4]int{8, 2, most - 20, most - 10}}, {two(), requirement(sum("1"), "-1000", "41"), [4]int{991, 0, 991, 0}},
		{two(), requirement(a, "", ""), [4]int{most - 10, most - 10, most - 20, most - 10}}, {two(sum("-45")), requirement(sum("0"), "", "45"), [4]int{most - 10, most - 10, most - 20, most - 10}}, {two(sum("-45")), requirement(sum("0"), "", "44"), [4]int{most - 10, 4, most - 20, 4}}, {two(sum("-45")), requirement(sum("0"), "", "89/2"), [4]int{most - 10, 4, most - 20, 4}}, {two(sum("-45")), requirement(sum("0"), "", "40"), [4]int{most - 10, 0, most - 20, 0}},
		// The greatest value of 2 a + b grows twice as fast as a, and then as fast as a.
		{two(sum("-45")), requirement(formed("0", 0, "2", 1, "1"), "", "70"), [4]int{most - 10, 15, most - 20, most - 10}}, {two(), requirement(formed("0", 0, "-1"), "-1073741824", "11"), [4]int{1, most - 10, most - 20, most - 10}},
	} {
		for k, want := range c.want {
			if room, e := Room(c.p, c.r, k/2, k%2 == 1); room != want || e != api.OK {
				t.Errorf("%d, %d: Room = %d, %d, not %d", i, k, room, e, want)
			}
		}
	}
	for i, c := range []struct {
		p         stackup.Problem
		r         api.Requirement
		dimension int
		want      api.Errno
	}{
		{two(), requirement(a, "", "9"), 1, api.ErrTooWide}, {two(), requirement(a, "-9", ""), 0, api.ErrTooWide}, {two(), requirement(a, "1/0", "9"), 0, api.ErrZero}, {two(), requirement(a, "3", "2"), 0, api.ErrOrder}, {two(), requirement(a, "3", "2"), 2, api.ErrRange}, {two(), api.Requirement{Gap: api.Expr{Op: 1}}, 0, api.ErrName}, {two(), api.Requirement{Name: "r", Gap: api.Expr{Op: 1}}, 0, api.ErrKind}, {two(sum("100")), requirement(a, "", "9"), 0, api.ErrInfeasible},
	} {
		if room, e := Room(c.p, c.r, c.dimension, true); room != 0 || e != c.want {
			t.Errorf("%d: Room = %d, %d", i, room, e)
		}
	}
}

func randomForm(r *rand.Rand, n int) api.Form {
	f := formed(fmt.Sprint(r.Intn(9) - 4))
	for d := range n {
		if k := r.Intn(7) - 3; k != 0 {
			f.Terms = append(f.Terms, api.Term{Dimension: d, Factor: api.Number(fmt.Sprint(k))})
		}
	}
	return f
}

func random(r *rand.Rand) stackup.Problem {
	var p stackup.Problem
	n := 1 + r.Intn(3)
	for i := range n {
		p.Dimensions = append(p.Dimensions, api.Dimension{Name: fmt.Sprint("d", i), Nominal: r.Intn(7) - 3, Lower: -r.Intn(3), Upper: r.Intn(3)})
	}
	for i := range r.Intn(4) {
		p.Constraints = append(p.Constraints, api.Constraint{Name: fmt.Sprint("c", i), Form: randomForm(r, n)})
	}
	return p
}

func read(n api.Number) rational.Rat {
	a, _ := rational.Read(n)
	return a
}

func worstOf(p stackup.Problem, f api.Form, greatest bool) rational.Rat {
	w, _ := stackup.Least(p, f)
	if greatest {
		w, _ = stackup.Greatest(p, f)
	}
	return read(w.Value)
}

// scaled returns a problem and a form with all lengths multiplied by a number, so that rational widenings of the first ones are ints.
func scaled(p stackup.Problem, f api.Form, by int) (stackup.Problem, api.Form) {
	form := func(f api.Form) api.Form {
		f.Constant = rational.Mul(read(f.Constant), rational.From(by)).Number()
		return f
	}
	var q stackup.Problem
	for _, d := range p.Dimensions {
		q.Dimensions = append(q.Dimensions, api.Dimension{Name: d.Name, Nominal: by * d.Nominal, Lower: by * d.Lower, Upper: by * d.Upper})
	}
	for _, c := range p.Constraints {
		q.Constraints = append(q.Constraints, api.Constraint{Name: c.Name, Form: form(c.Form)})
	}
	return q, form(f)
}

// checkPrice compares a price with worst cases: within Until, at it, and behind it.
func checkPrice(t *testing.T, p stackup.Problem, f api.Form, greatest bool, x Price) {
	until := read(x.Until)
	if x.Until == "" {
		until = rational.From(40)
	}
	if until.Sign() <= 0 || x.Rate == "0" && x.Until != "" || greatest && read(x.Rate).Sign() < 0 || !greatest && read(x.Rate).Sign() > 0 {
		t.Fatalf("the price is %v", x)
	}
	den, _ := until.Den().Int()
	by := 2 * den
	q, g := scaled(p, f, by)
	start := worstOf(q, g, greatest)
	end, _ := rational.Mul(until, rational.From(by)).Int()
	for _, c := range []struct {
		widening int
		isOn     bool
	}{{end / 2, true}, {end, true}, {end + 1, x.Until == ""}, {2 * end, x.Until == ""}} {
		wide, _ := Widen(q, x.Dimension, x.Upper, c.widening)
		change := rational.Sub(worstOf(wide, g, greatest), start)
		said := rational.Mul(read(x.Rate), rational.From(c.widening))
		compared := rational.Compare(change, said)
		if c.isOn != (compared == 0) || greatest && compared > 0 || !greatest && compared < 0 {
			t.Fatalf("%v widened by %d/%d gives %s, with the price %v", p, c.widening, by, change.Number(), x)
		}
	}
}

// P42.6, and prices against worst cases.
func TestConsequences(t *testing.T) {
	r := rand.New(rand.NewSource(1))
	bent := 0
	for range 400 {
		p := random(r)
		before := fmt.Sprint(p)
		f := randomForm(r, len(p.Dimensions))
		greatest := r.Intn(2) == 0
		prices, e := Prices(p, f, greatest)
		if e == api.ErrInfeasible {
			continue
		}
		for _, x := range prices {
			checkPrice(t, p, f, greatest, x)
			if x.Until != "" {
				bent++
			}
		}
		free := stackup.Problem{Dimensions: p.Dimensions}
		l, _ := Contributions(free, f)
		values, _ := rational.Reads(l)
		span := rational.Sub(worstOf(free, f, true), worstOf(free, f, false))
		if all := rational.Sum(values...); rational.Compare(all, span) != 0 {
			t.Fatalf("the contributions add up to %s", all.Number())
		}
		shares, _ := Shares(free, f)
		values, _ = rational.Reads(shares)
		if all := rational.Sum(values...).Number(); all != "1" && span.Sign() != 0 {
			t.Fatalf("the shares add up to %s", all)
		}
		checkRoom(t, r, p, f)
		if fmt.Sprint(p) != before {
			t.Fatal("an argument is changed")
		}
	}
	if bent < 50 {
		t.Errorf("%d prices have an end", bent)
	}
}

// checkRoom compares the room of a deviation with what is met when it is widened.
func checkRoom(t *testing.T, r *rand.Rand, p stackup.Problem, f api.Form) {
	high := rational.Add(worstOf(p, f, true), rational.From(r.Intn(6))).Number()
	low := rational.Sub(worstOf(p, f, false), rational.From(r.Intn(6))).Number()
	q := requirement(f, low, high)
	dimension, upper := r.Intn(len(p.Dimensions)), r.Intn(2) == 0
	room, e := Room(p, q, dimension, upper)
	if e != api.OK {
		t.Fatalf("Room: %d", e)
	}
	wide, _ := Widen(p, dimension, upper, room)
	if report, _ := stackup.Examine(wide, q); !report.Met {
		t.Fatalf("the room of %v is not %d", p, room)
	}
	wider, e := Widen(p, dimension, upper, room+1)
	if report, _ := stackup.Examine(wider, q); e == api.OK && report.Met {
		t.Fatalf("the room of %v is more than %d", p, room)
	}
	// Another deviation has no more room behind this one.
	other := r.Intn(len(p.Dimensions))
	first, _ := Room(p, q, other, !upper)
	second, _ := Room(wide, q, other, !upper)
	if second > first {
		t.Fatalf("the room of %d has grown from %d to %d", other, first, second)
	}
}

// Full problems are answered in a short time.
func TestFullProblem(t *testing.T) {
	r := rand.New(rand.NewSource(1))
	var p stackup.Problem
	for i := range api.MaxDimensions {
		p.Dimensions = append(p.Dimensions, api.Dimension{Name: fmt.Sprint("d", i), Lower: -r.Intn(100), Upper: r.Intn(100)})
	}
	for i := range stackup.MaxConstraints {
		f := formed(fmt.Sprint(-r.Intn(100)))
		for d := range api.MaxDimensions {
			if r.Intn(12) == 0 {
				f.Terms = append(f.Terms, api.Term{Dimension: d, Factor: api.Number(fmt.Sprint(1 + r.Intn(9)))})
			}
		}
		p.Constraints = append(p.Constraints, api.Constraint{Name: fmt.Sprint("c", i), Form: f})
	}
	f := randomForm(r, api.MaxDimensions)
	prices, e := Prices(p, f, true)
	if len(prices) != 2*api.MaxDimensions || e != api.OK {
		t.Errorf("Prices: %d", e)
	}
}
