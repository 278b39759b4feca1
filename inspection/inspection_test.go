package inspection

import (
	"fmt"
	"math/rand"
	"slices"
	"strings"
	"testing"

	"dowel/api"
	"dowel/rational"
	"dowel/stackup"
)

// formed returns a form with a constant and terms, given as dimension and factor in turn.
func formed(constant string, terms ...any) api.Form {
	f := api.Form{Constant: api.Number(constant)}
	for i := 0; i < len(terms); i += 2 {
		f.Terms = append(f.Terms, api.Term{Dimension: terms[i].(int), Factor: api.Number(terms[i+1].(string))})
	}
	return f
}

// two is the problem of the document, with constraints.
func two(constraints ...api.Form) stackup.Problem {
	p := stackup.Problem{Dimensions: []api.Dimension{{Name: "a", Nominal: 100, Lower: -2, Upper: 2}, {Name: "b", Nominal: 40, Lower: -1, Upper: 1}}}
	for i, f := range constraints {
		p.Constraints = append(p.Constraints, api.Constraint{Name: fmt.Sprint("c", i), Form: f})
	}
	return p
}

func difference() api.Form { return formed("0", 0, "1", 1, "-1") }

func requirement(f api.Form, low, high api.Number) api.Requirement {
	return api.Requirement{Name: "r", Gap: api.Expr{Form: f}, Low: low, High: high}
}

func gap() api.Requirement { return requirement(difference(), "58", "62") }

// P44.1
func TestCheckAndNarrow(t *testing.T) {
	const most = api.MaxLength
	bad := two()
	bad.Dimensions[1].Name = "a"
	for i, c := range []struct {
		p      stackup.Problem
		l      []Measurement
		check  api.Errno
		narrow api.Errno
	}{
		{two(), nil, 0, 0}, {two(), []Measurement{{0, -most, most}, {1, 0, 0}}, 0, api.ErrRange}, {two(), []Measurement{{1, 0, most}}, 0, 0}, {two(), []Measurement{{1, -1, most}}, 0, api.ErrRange},
		{bad, []Measurement{{9, 0, 0}}, api.ErrDuplicate, api.ErrDuplicate}, {two(), []Measurement{{2, most + 1, 0}}, api.ErrNotFound, api.ErrNotFound}, {two(), []Measurement{{-1, 0, 0}}, api.ErrNotFound, api.ErrNotFound}, {two(), []Measurement{{1, 0, 0}, {0, most + 1, 0}}, api.ErrOrder, api.ErrOrder}, {two(), []Measurement{{1, 0, 0}, {1, 0, 0}}, api.ErrOrder, api.ErrOrder}, {two(), []Measurement{{1, 1, 0}, {2, 0, 0}}, api.ErrEmpty, api.ErrEmpty}, {two(), []Measurement{{0, -most - 1, 0}}, api.ErrRange, api.ErrRange}, {two(), []Measurement{{0, most + 1, most}}, api.ErrRange, api.ErrRange}, {two(), []Measurement{{0, 0, most + 1}}, api.ErrRange, api.ErrRange}, {two(), []Measurement{{0, 1, 0}}, api.ErrEmpty, api.ErrEmpty},
	} {
		if e := Check(c.p, c.l); e != c.check {
			t.Errorf("%d: Check = %d", i, e)
		}
		q, e := Narrow(c.p, c.l)
		if e != c.narrow || e != api.OK && (q.Dimensions != nil || q.Constraints != nil) {
			t.Errorf("%d: Narrow = %v, %d", i, q, e)
		}
		if c.narrow == api.OK {
			continue
		}
		v, e1 := Judge(c.p, c.l, api.Requirement{})
		influences, e2 := Influence(c.p, c.l, api.Form{})
		dimension, found, e3 := Next(c.p, c.l, []api.Requirement{{}})
		accepted, e4 := Accept(c.p, c.l, []api.Requirement{{}})
		if v.Status != 0 || influences != nil || dimension != 0 || found || accepted != 0 || !slices.Equal([]api.Errno{e1, e2, e3, e4}, slices.Repeat([]api.Errno{c.narrow}, 4)) {
			t.Errorf("%d: %d, %d, %d, %d", i, e1, e2, e3, e4)
		}
		kinds, e1 := Conformance(c.p, c.l)
		merged, e2 := Merge(c.p, nil, c.l)
		accepted, e3 = Accept(c.p, c.l, nil)
		_, found, e4 = Next(c.p, c.l, nil)
		if c.check != api.OK && (kinds != nil || merged != nil || accepted != 0) || found || !slices.Equal([]api.Errno{e1, e2, e3, e4}, slices.Repeat([]api.Errno{c.check}, 4)) {
			t.Errorf("%d: %d, %d, %d, %d", i, e1, e2, e3, e4)
		}
	}
	p := two(formed("-200", 0, "1"))
	q, e := Narrow(p, []Measurement{{0, 104, 107}})
	if fmt.Sprint(q) != "{[{a 104 0 3} {b 40 -1 1}] [{c0 {-200 [{0 1}]}}]}" || e != api.OK {
		t.Errorf("Narrow = %v, %d", q, e)
	}
	q.Constraints[0].Form.Terms[0].Dimension, q.Dimensions[1].Name = 9, "x"
	if p.Constraints[0].Form.Terms[0].Dimension != 0 || p.Dimensions[1].Name != "b" {
		t.Error("memory is shared")
	}
}

// P44.2
func TestMerge(t *testing.T) {
	bad := []Measurement{{0, 1, 0}}
	for i, c := range []struct {
		l, m, want []Measurement
		e          api.Errno
	}{
		{nil, nil, nil, 0}, {[]Measurement{{1, 3, 5}}, nil, []Measurement{{1, 3, 5}}, 0}, {[]Measurement{{1, 3, 5}}, []Measurement{{0, 1, 2}}, []Measurement{{0, 1, 2}, {1, 3, 5}}, 0}, {[]Measurement{{0, 0, 9}, {1, 3, 5}}, []Measurement{{1, 4, 9}}, []Measurement{{0, 0, 9}, {1, 4, 5}}, 0}, {[]Measurement{{1, 3, 5}}, []Measurement{{1, 1, 3}}, []Measurement{{1, 3, 3}}, 0}, {[]Measurement{{1, 3, 5}}, []Measurement{{1, 3, 5}}, []Measurement{{1, 3, 5}}, 0},
		{[]Measurement{{1, 3, 5}}, []Measurement{{1, 1, 2}}, nil, api.ErrConflict}, {[]Measurement{{0, 3, 3}, {1, 3, 5}}, []Measurement{{0, 4, 4}, {1, 6, 9}}, nil, api.ErrConflict}, {bad, []Measurement{{2, 0, 0}}, nil, api.ErrEmpty}, {[]Measurement{{1, 3, 5}}, []Measurement{{2, 0, 0}}, nil, api.ErrNotFound},
	} {
		merged, e := Merge(two(), c.l, c.m)
		if !slices.Equal(merged, c.want) || e != c.e {
			t.Errorf("%d: Merge = %v, %d", i, merged, e)
		}
	}
}

// P44.3
func TestJudge(t *testing.T) {
	for i, c := range []struct {
		p               stackup.Problem
		l               []Measurement
		r               api.Requirement
		status          int
		least, greatest api.Number
	}{
		{two(), nil, gap(), Open, "57", "63"}, {two(), []Measurement{{0, 100, 101}}, gap(), Met, "59", "62"}, {two(), []Measurement{{0, 104, 105}}, gap(), Violated, "63", "66"}, {two(), []Measurement{{0, 103, 105}}, gap(), Open, "62", "66"}, {two(), []Measurement{{0, 90, 98}}, gap(), Open, "49", "59"}, {two(), []Measurement{{0, 90, 97}}, gap(), Open, "49", "58"}, {two(), []Measurement{{0, 90, 96}}, gap(), Violated, "49", "57"}, {two(), nil, requirement(difference(), "", ""), Met, "57", "63"}, {two(), nil, requirement(difference(), "127/2", ""), Violated, "57", "63"}, {two(), nil, requirement(difference(), "", "113/2"), Violated, "57", "63"}, {two(), nil, requirement(difference(), "63", ""), Open, "57", "63"},
		{two(formed("-138", 0, "1", 1, "1")), nil, requirement(difference(), "57", "60"), Met, "58", "60"}, {two(formed("-138", 0, "1", 1, "1")), []Measurement{{0, 97, 97}}, gap(), Open, "56", "58"},
	} {
		v, e := Judge(c.p, c.l, c.r)
		if v.Status != c.status || v.Report.Least.Value != c.least || v.Report.Greatest.Value != c.greatest || e != api.OK {
			t.Errorf("%d: Judge = %v, %d", i, v, e)
		}
		measured, _ := Narrow(c.p, c.l)
		if report, _ := stackup.Examine(measured, c.r); fmt.Sprint(report) != fmt.Sprint(v.Report) {
			t.Errorf("%d: the report is %v", i, v.Report)
		}
	}
	for i, c := range []struct {
		p    stackup.Problem
		l    []Measurement
		r    api.Requirement
		want api.Errno
	}{
		{two(), []Measurement{{0, -api.MaxLength, 1}}, api.Requirement{}, api.ErrRange}, {two(), nil, api.Requirement{}, api.ErrName}, {two(), nil, api.Requirement{Name: "r", Gap: api.Expr{Op: 1}}, api.ErrKind}, {two(), nil, requirement(formed("0", 2, "1"), "", ""), api.ErrNotFound}, {two(), nil, requirement(difference(), "2", "1"), api.ErrOrder}, {two(formed("-138", 0, "1", 1, "1")), []Measurement{{0, 104, 105}}, gap(), api.ErrInfeasible},
	} {
		v, e := Judge(c.p, c.l, c.r)
		accepted, e2 := Accept(c.p, c.l, []api.Requirement{c.r})
		dimension, found, e3 := Next(c.p, c.l, []api.Requirement{c.r})
		if v.Status != 0 || v.Report.Least.Value != "" || accepted != 0 || dimension != 0 || found || e != c.want || e2 != c.want || e3 != c.want {
			t.Errorf("%d: %d, %d, %d", i, e, e2, e3)
		}
	}
}

// P44.4
func TestConformance(t *testing.T) {
	for i, c := range []struct {
		l    []Measurement
		want []int
	}{
		{nil, []int{Doubtful, Doubtful}}, {[]Measurement{{0, 104, 105}}, []int{Fails, Doubtful}}, {[]Measurement{{0, 98, 102}, {1, 41, 42}}, []int{Conforms, Doubtful}}, {[]Measurement{{0, 97, 97}, {1, 38, 39}}, []int{Fails, Doubtful}}, {[]Measurement{{0, 103, 103}, {1, 39, 39}}, []int{Fails, Conforms}}, {[]Measurement{{0, 102, 103}, {1, 0, 90}}, []int{Doubtful, Doubtful}}, {[]Measurement{{0, -api.MaxLength, api.MaxLength}}, []int{Doubtful, Doubtful}},
	} {
		if kinds, e := Conformance(two(), c.l); !slices.Equal(kinds, c.want) || e != api.OK {
			t.Errorf("%d: Conformance = %d, %d", i, kinds, e)
		}
	}
}

// P44.4
func TestInfluenceNextAccept(t *testing.T) {
	for i, c := range []struct {
		l    []Measurement
		f    api.Form
		want string
	}{
		{nil, difference(), "[4 2]"}, {[]Measurement{{0, 100, 101}}, difference(), "[1 2]"}, {[]Measurement{{1, 7, 7}}, formed("5", 0, "-1/3", 1, "2"), "[4/3 0]"}, {nil, formed("1", 1, "-1"), "[0 2]"},
	} {
		if l, e := Influence(two(), c.l, c.f); fmt.Sprint(l) != c.want || e != api.OK {
			t.Errorf("%d: Influence = %v, %d", i, l, e)
		}
	}
	if l, e := Influence(two(), nil, formed("0", 2, "1")); l != nil || e != api.ErrNotFound {
		t.Errorf("Influence = %v, %d", l, e)
	}
	met, violated := requirement(difference(), "57", "63"), requirement(difference(), "64", "")
	onlyB := requirement(formed("0", 1, "5"), "", "200")
	for i, c := range []struct {
		l         []Measurement
		r         []api.Requirement
		dimension int
		found     bool
		accepted  int
	}{
		{nil, nil, 0, false, Met}, {nil, []api.Requirement{met}, 0, false, Met}, {nil, []api.Requirement{gap()}, 0, true, Open}, {nil, []api.Requirement{met, gap(), onlyB}, 1, true, Open}, {nil, []api.Requirement{gap(), violated}, 0, true, Violated}, {nil, []api.Requirement{violated, met}, 0, false, Violated}, {[]Measurement{{0, 99, 102}}, []api.Requirement{gap()}, 1, true, Open}, {[]Measurement{{0, 99, 105}, {1, 39, 41}}, []api.Requirement{gap()}, 0, false, Open}, {[]Measurement{{0, 102, 102}}, []api.Requirement{requirement(formed("0", 0, "1", 1, "-1"), "", "62")}, 1, true, Open}, {nil, []api.Requirement{requirement(formed("0", 0, "1", 1, "2"), "", "180")}, 0, true, Open},
	} {
		dimension, found, e := Next(two(), c.l, c.r)
		accepted, e2 := Accept(two(), c.l, c.r)
		if dimension != c.dimension || found != c.found || accepted != c.accepted || e+e2 != api.OK {
			t.Errorf("%d: Next = %d, %t, %d, Accept = %d, %d", i, dimension, found, e, accepted, e2)
		}
	}
	// The first requirement with an error decides, also behind a violated one.
	if accepted, e := Accept(two(), nil, []api.Requirement{violated, {Name: "r", Gap: api.Expr{Op: 1}}, {}}); accepted != 0 || e != api.ErrKind {
		t.Errorf("Accept = %d, %d", accepted, e)
	}
}

// P44.5
func TestWindow(t *testing.T) {
	for i, c := range []struct {
		l         []Measurement
		r         api.Requirement
		dimension int
		low, high api.Number
	}{
		{nil, gap(), 0, "99", "101"}, {nil, gap(), 1, "40", "40"}, {[]Measurement{{0, 104, 105}}, gap(), 1, "43", "46"}, {[]Measurement{{0, 104, 105}}, gap(), 0, "99", "101"}, {[]Measurement{{1, 40, 40}}, gap(), 0, "98", "102"}, {nil, requirement(difference(), "58", ""), 0, "99", ""}, {nil, requirement(difference(), "58", ""), 1, "", "40"}, {nil, requirement(difference(), "", "62"), 0, "", "101"}, {nil, requirement(difference(), "", "62"), 1, "40", ""}, {nil, requirement(difference(), "", ""), 0, "", ""}, {nil, requirement(formed("1", 0, "3", 1, "1/2"), "320", "330"), 0, "599/6", "617/6"}, {nil, requirement(formed("0", 0, "-2"), "-7", "1/3"), 0, "-1/6", "7/2"},
	} {
		low, high, e := Window(two(), c.l, c.r, c.dimension)
		if low != c.low || high != c.high || e != api.OK {
			t.Errorf("%d: Window = %s, %s, %d", i, low, high, e)
		}
	}
	bad := two()
	bad.Dimensions[0].Name = ""
	for i, c := range []struct {
		p         stackup.Problem
		l         []Measurement
		r         api.Requirement
		dimension int
		want      api.Errno
	}{
		{bad, nil, gap(), 9, api.ErrName}, {two(), []Measurement{{0, 1, 0}}, gap(), 9, api.ErrEmpty}, {two(formed("0")), nil, gap(), 9, api.ErrConflict}, {two(), nil, api.Requirement{}, 2, api.ErrNotFound}, {two(), nil, api.Requirement{}, -1, api.ErrNotFound}, {two(), []Measurement{{0, -1, api.MaxLength}}, api.Requirement{}, 0, api.ErrRange}, {two(), nil, api.Requirement{}, 0, api.ErrName}, {two(), nil, requirement(formed("0", 0, "1"), "x", ""), 1, api.ErrSyntax}, {two(), nil, requirement(formed("0", 0, "1"), "1", ""), 1, api.ErrZero}, {two(), nil, requirement(difference(), "58", "61"), 1, api.ErrInfeasible}, {two(), nil, requirement(difference(), "60", "61"), 0, api.ErrInfeasible},
	} {
		low, high, e := Window(c.p, c.l, c.r, c.dimension)
		if low+high != "" || e != c.want {
			t.Errorf("%d: Window = %s, %s, %d", i, low, high, e)
		}
	}
}

func randomForm(r *rand.Rand, n int) api.Form {
	f := formed(fmt.Sprint(r.Intn(9) - 4))
	for d := range n {
		if k := r.Intn(5) - 2; k != 0 {
			f.Terms = append(f.Terms, api.Term{Dimension: d, Factor: api.Number(fmt.Sprint(k))})
		}
	}
	return f
}

func random(r *rand.Rand) stackup.Problem {
	var p stackup.Problem
	n := 1 + r.Intn(3)
	for i := range n {
		p.Dimensions = append(p.Dimensions, api.Dimension{Name: fmt.Sprint("d", i), Nominal: r.Intn(7) - 3, Lower: -r.Intn(3), Upper: r.Intn(3)})
	}
	for i := range r.Intn(2) {
		p.Constraints = append(p.Constraints, api.Constraint{Name: fmt.Sprint("c", i), Form: randomForm(r, n)})
	}
	return p
}

// measured returns measurements of some dimensions, around their tolerances.
func measured(r *rand.Rand, p stackup.Problem, wide int) []Measurement {
	var l []Measurement
	for i, d := range p.Dimensions {
		if r.Intn(3) > 0 {
			low := d.Nominal + r.Intn(7) - 3
			l = append(l, Measurement{i, low, low + r.Intn(wide)})
		}
	}
	return l
}

// vectors returns all possible vectors of integers.
func vectors(p stackup.Problem, l []Measurement) [][]api.Number {
	q, _ := Narrow(p, l)
	all := [][]api.Number{nil}
	for _, d := range q.Dimensions {
		var longer [][]api.Number
		for _, x := range all {
			for v := d.Nominal + d.Lower; v <= d.Nominal+d.Upper; v++ {
				longer = append(longer, append(slices.Clone(x), rational.From(v).Number()))
			}
		}
		all = longer
	}
	return slices.DeleteFunc(all, func(x []api.Number) bool {
		ok, _ := stackup.Permitted(q, x)
		return !ok
	})
}

// P44.6
func TestConsequences(t *testing.T) {
	r := rand.New(rand.NewSource(1))
	seen := map[int]int{}
	for range 1500 {
		p := random(r)
		l := measured(r, p, 3)
		f := randomForm(r, len(p.Dimensions))
		low := r.Intn(9) - 6
		q := requirement(f, api.Number(fmt.Sprint(low)), api.Number(fmt.Sprint(low+r.Intn(9))))
		before := fmt.Sprint(p, l, q)
		v, e := Judge(p, l, q)
		if e == api.ErrInfeasible {
			if len(vectors(p, l)) > 0 {
				t.Fatal("ErrInfeasible, though there is a vector")
			}
			continue
		}
		seen[v.Status]++
		for _, x := range vectors(p, l) {
			value, _ := stackup.Value(len(x), f, x)
			in := rational.Compare(read(value), read(q.Low)) >= 0 && rational.Compare(read(value), read(q.High)) <= 0
			if v.Status == Met && !in || v.Status == Violated && in {
				t.Fatalf("the status is %d, but the value at %v is %s", v.Status, x, value)
			}
		}
		checkNarrower(t, r, p, l, q, v.Status)
		checkConforming(t, p, l, q, v.Status)
		if len(p.Constraints) == 0 {
			checkWindow(t, r, p, l, q)
		}
		if fmt.Sprint(p, l, q) != before {
			t.Fatal("an argument is changed")
		}
	}
	for s := Met; s <= Open; s++ {
		if seen[s] < 50 {
			t.Errorf("%d requirements have the status %d", seen[s], s)
		}
	}
}

// checkNarrower merges further measurements, and measures everything exactly.
func checkNarrower(t *testing.T, r *rand.Rand, p stackup.Problem, l []Measurement, q api.Requirement, status int) {
	more := measured(r, p, 4)
	// Only within what is possible for the dimensions a measurement is narrower than nothing.
	for i := range more {
		d := p.Dimensions[more[i].Dimension]
		more[i].Low, more[i].High = max(more[i].Low, d.Nominal+d.Lower), min(more[i].High, d.Nominal+d.Upper)
	}
	more = slices.DeleteFunc(more, func(m Measurement) bool { return m.Low > m.High })
	both, e := Merge(p, l, more)
	reverse, e2 := Merge(p, more, l)
	if e != e2 || !slices.Equal(both, reverse) {
		t.Fatalf("Merge = %v, %d, and %v, %d", both, e, reverse, e2)
	}
	if same, e := Merge(p, l, l); !slices.Equal(same, l) || e != api.OK {
		t.Fatalf("Merge = %v, %d", same, e)
	}
	if e != api.OK {
		return
	}
	if v, e := Judge(p, both, q); e == api.OK && status != Open && v.Status != status {
		t.Fatalf("with more measurements, %d becomes %d", status, v.Status)
	}
	exact := make([]Measurement, len(p.Dimensions))
	for i, d := range p.Dimensions {
		exact[i] = Measurement{i, d.Nominal, d.Nominal}
	}
	if v, e := Judge(p, exact, q); e == api.OK && v.Status == Open {
		t.Fatal("everything is measured, and the requirement is open")
	}
}

// checkConforming compares with what is met without measurements.
func checkConforming(t *testing.T, p stackup.Problem, l []Measurement, q api.Requirement, status int) {
	kinds, _ := Conformance(p, l)
	for _, m := range l {
		if kinds[m.Dimension] != Conforms {
			return
		}
	}
	if v, _ := Judge(p, nil, q); v.Status == Met && status != Met {
		t.Fatalf("the measurements conform, and make %d of Met", status)
	}
}

// checkWindow measures a dimension exactly at and behind the ends of its window.
func checkWindow(t *testing.T, r *rand.Rand, p stackup.Problem, l []Measurement, q api.Requirement) {
	dimension := r.Intn(len(p.Dimensions))
	low, high, e := Window(p, l, q, dimension)
	if e == api.ErrZero {
		return
	}
	others := slices.DeleteFunc(slices.Clone(l), func(m Measurement) bool { return m.Dimension == dimension })
	for at := -12; at <= 12; at++ {
		exact, _ := Merge(p, others, []Measurement{{dimension, at, at}})
		v, _ := Judge(p, exact, q)
		is := e == api.OK && rational.Compare(rational.From(at), read(low)) >= 0 && rational.Compare(rational.From(at), read(high)) <= 0
		if is != (v.Status == Met) {
			t.Fatalf("the window is from %s to %s (%d), but the status at %d is %d", low, high, e, at, v.Status)
		}
	}
}

// Bounds with many digits.
func TestLongBounds(t *testing.T) {
	long := api.Number(strings.Repeat("7", api.MaxNumber))
	low, high, e := Window(two(), nil, requirement(formed("0", 0, "1/3"), "", long), 0)
	if want := rational.Mul(read(long), rational.From(3)).Number(); low != "" || high != want || e != api.OK {
		t.Errorf("Window = %s, %s, %d", low, high, e)
	}
}
