package linear

import (
	"math/rand"
	"slices"
	"strings"
	"testing"

	"dowel/api"
	"dowel/rational"
)

func numbers(text string) []api.Number {
	var l []api.Number
	for word := range strings.FieldsSeq(text) {
		l = append(l, api.Number(word))
	}
	return l
}

// rows returns the rows that are written as "1 2 <= 3, 4 5 <= 6".
func rows(text string) []api.Row {
	var l []api.Row
	for part := range strings.SplitSeq(text, ",") {
		if strings.TrimSpace(part) == "" {
			continue
		}
		coefficients, bound, _ := strings.Cut(part, "<=")
		l = append(l, api.Row{Coefficients: numbers(coefficients), Bound: api.Number(strings.TrimSpace(bound))})
	}
	return l
}

func program1(objective, text string) api.Program {
	return api.Program{Objective: numbers(objective), Rows: rows(text)}
}

func isZero(o api.Outcome) bool {
	return o.Kind == 0 && o.Value == "" && o.Point == nil && o.Duals == nil && o.Ray == nil
}

// many returns a program with so many variables and rows.
func many(variables, count int) api.Program {
	p := api.Program{Objective: rational.Numbers(make([]rational.Rat, variables))}
	for range count {
		p.Rows = append(p.Rows, api.Row{Coefficients: slices.Clone(p.Objective), Bound: "0"})
	}
	return p
}

// P6.1
func TestCheck(t *testing.T) {
	long := api.Number(strings.Repeat("1", api.MaxBytes+1))
	ragged := many(2, 3)
	ragged.Rows[1].Coefficients = numbers("1 x 2")
	ragged.Objective[0] = "x"
	for i, c := range []struct {
		p api.Program
		e api.Errno
	}{
		{api.Program{}, api.OK}, {many(api.MaxVariables, api.MaxRows), api.OK}, {program1("1 1", "1 0 <= 2, 0 1 <= 3"), api.OK}, {program1("1", ""), api.OK},
		{many(api.MaxVariables+1, 1), api.ErrLimit}, {many(1, api.MaxRows+1), api.ErrLimit}, {ragged, api.ErrSize},
		{program1("2/4 x", "1 1 <= 1/0"), api.ErrForm}, {program1("1 x", "1 1 <= 1/0"), api.ErrSyntax}, {program1("1 1", "1 1 <= 1/0, 1 x <= 0"), api.ErrZero}, {program1("1 1", "1 1 <= 1, 1 2/4 <= x"), api.ErrForm}, {program1("1 1", "1 1 <= 1, 1 2 <= x"), api.ErrSyntax}, {api.Program{Objective: []api.Number{long}}, api.ErrLong}, {api.Program{Objective: []api.Number{"1"}, Rows: []api.Row{{Coefficients: []api.Number{"1"}}}}, api.ErrSyntax},
	} {
		if e := Check(c.p); e != c.e {
			t.Errorf("%d: Check: %d, not %d", i, e, c.e)
		}
		if c.e == api.OK {
			continue
		}
		if o, e := Solve(c.p); e != c.e || !isZero(o) {
			t.Errorf("%d: Solve: %d", i, e)
		}
		if e := Verify(c.p, api.Outcome{Kind: 9}); e != c.e {
			t.Errorf("%d: Verify: %d", i, e)
		}
		if x, e := Extent(c.p.Objective, c.p.Rows); e != c.e || x != (api.Interval{}) {
			t.Errorf("%d: Extent: %d", i, e)
		}
	}
}

// P6.1
func TestErrorsOfRows(t *testing.T) {
	for i, c := range []struct {
		variables int
		rows      []api.Row
		e         api.Errno
	}{
		{-1, rows("x <= 0"), api.ErrRange}, {api.MaxVariables + 1, nil, api.ErrRange}, {1, many(1, api.MaxRows+1).Rows, api.ErrLimit}, {2, rows("1 <= 0"), api.ErrSize}, {1, rows("x <= 0"), api.ErrSyntax}, {1, rows("1 <= 2/4"), api.ErrForm},
	} {
		if o, e := Feasible(c.variables, c.rows); e != c.e || !isZero(o) {
			t.Errorf("%d: Feasible: %d", i, e)
		}
		if is, e := Redundant(c.variables, c.rows, -1); e != c.e || is {
			t.Errorf("%d: Redundant: %d", i, e)
		}
		if l, e := Reduce(c.variables, c.rows); e != c.e || l != nil {
			t.Errorf("%d: Reduce: %d", i, e)
		}
		if l, e := Inner(c.variables, c.rows); e != c.e || l != nil {
			t.Errorf("%d: Inner: %d", i, e)
		}
	}
	for i, c := range []struct {
		point []api.Number
		rows  []api.Row
		e     api.Errno
	}{
		{many(api.MaxVariables+1, 0).Objective, rows("1 <= 0"), api.ErrLimit}, {numbers("x"), many(1, api.MaxRows+1).Rows, api.ErrLimit}, {numbers("x"), rows("1 1 <= 0"), api.ErrSize}, {numbers("x"), rows("2/4 <= 0"), api.ErrForm}, {numbers("x"), rows("1 <= 0"), api.ErrSyntax}, {numbers("1 2/4"), nil, api.ErrForm},
	} {
		if is, e := Holds(c.point, c.rows); e != c.e || is {
			t.Errorf("%d: Holds: %d", i, e)
		}
	}
}

// P6.2
func TestSolve(t *testing.T) {
	for i, c := range []struct {
		p     api.Program
		kind  int
		value api.Number
	}{
		{program1("1 1", "1 0 <= 2, 0 1 <= 3, 1 1 <= 4"), api.Optimal, "4"}, {program1("1 1", "1 0 <= 2, 0 1 <= 3"), api.Optimal, "5"},
		{program1("0", "1 <= 1, -1 <= -2"), api.Infeasible, ""}, {program1("1", "-1 <= 0"), api.Unbounded, ""},
		{program1("", ""), api.Optimal, "0"}, {program1("0 0", ""), api.Optimal, "0"}, {program1("0 -1", ""), api.Unbounded, ""}, {program1("", "<= 0"), api.Optimal, "0"}, {program1("", "<= -1/2"), api.Infeasible, ""}, {program1("", "<= 1/2"), api.Optimal, "0"},
		// A variable that no row has, or a direction in which no row changes.
		{program1("1 0", "1 0 <= 5"), api.Optimal, "5"}, {program1("1 1", "1 0 <= 5"), api.Unbounded, ""}, {program1("1 1", "1 -1 <= 5, -1 1 <= 3"), api.Unbounded, ""}, {program1("1 -1", "1 -1 <= 5, -1 1 <= 3"), api.Optimal, "5"}, {program1("1 1", "1 -1 <= 5, -1 1 <= -6"), api.Infeasible, ""},
		// Equations, and fractions.
		{program1("1/2 1/3", "1 1 <= 1, -1 -1 <= -1, -1 0 <= 0, 0 -1 <= 0"), api.Optimal, "1/2"}, {program1("-1 -1", "-2/3 -1/5 <= -7/11, -1/7 -3 <= -1/2"), api.Optimal, "-4739/4554"},
		{program1("1", "0 <= -1, 1 <= 5"), api.Infeasible, ""}, {program1("1", "0 <= 0, 1 <= 5"), api.Optimal, "5"},
		// Infeasible, though the objective has no bound.
		{program1("0 1", "1 0 <= 0, -1 0 <= -1"), api.Infeasible, ""},
	} {
		o, e := Solve(c.p)
		if e != api.OK || o.Kind != c.kind || o.Value != c.value {
			t.Errorf("%d: Solve = %+v, %d", i, o, e)
		}
		if e := Verify(c.p, o); e != api.OK {
			t.Errorf("%d: Verify(%+v): %d", i, o, e)
		}
	}
}

// random returns a program with small numbers, many of which are 0, so that many corners coincide.
func random(r *rand.Rand) api.Program {
	variables := r.Intn(6)
	line := func() []api.Number {
		l := make([]rational.Rat, variables)
		for i := range l {
			if r.Intn(3) > 0 {
				l[i], _ = rational.Div(rational.From(r.Intn(9)-4), rational.From(1+r.Intn(2)))
			}
		}
		return rational.Numbers(l)
	}
	p := api.Program{Objective: line()}
	for range r.Intn(14) {
		p.Rows = append(p.Rows, api.Row{Coefficients: line(), Bound: rational.From(r.Intn(5+r.Intn(9)) - 2).Number()})
	}
	for i := range p.Objective {
		if r.Intn(2) == 0 {
			l := slices.Repeat([]api.Number{"0"}, variables)
			l[i] = "-1"
			p.Rows = append(p.Rows, api.Row{Coefficients: l, Bound: "0"})
		}
	}
	return p
}

// P6.2, P6.3, P6.8
func TestSolveProves(t *testing.T) {
	r := rand.New(rand.NewSource(7))
	kinds := map[int]int{}
	for range 4000 {
		p := random(r)
		o, e := Solve(p)
		if e != api.OK || Verify(p, o) != api.OK {
			t.Fatalf("Solve(%v) = %+v, %d, %d", p, o, e, Verify(p, o))
		}
		kinds[o.Kind]++
		f, e := Feasible(len(p.Objective), p.Rows)
		if e != api.OK || (f.Kind == api.Infeasible) != (o.Kind == api.Infeasible) || f.Kind == api.Optimal && f.Value != "0" {
			t.Fatalf("Feasible(%v) = %+v, %d", p, f, e)
		}
		q := shuffled(r, p)
		if x, e := Solve(q); e != api.OK || x.Kind != o.Kind || x.Value != o.Value {
			t.Fatalf("Solve(%v) = %+v, but in another order %+v", p, o, x)
		}
		if o.Kind == api.Optimal {
			checkDual(t, p, o.Value)
		}
	}
	if len(kinds) != 3 || kinds[api.Optimal] < 200 || kinds[api.Infeasible] < 200 || kinds[api.Unbounded] < 200 {
		t.Errorf("the kinds are %v", kinds)
	}
}

// shuffled returns the same program with its rows in another order, each multiplied by a positive number.
func shuffled(r *rand.Rand, p api.Program) api.Program {
	q := api.Program{Objective: p.Objective}
	for _, i := range r.Perm(len(p.Rows)) {
		factor := rational.From(1 + r.Intn(5))
		l, _ := rational.Reads(append(slices.Clone(p.Rows[i].Coefficients), p.Rows[i].Bound))
		n := rational.Numbers(each(l, func(a rational.Rat) rational.Rat { return rational.Mul(a, factor) }))
		q.Rows = append(q.Rows, api.Row{Coefficients: n[:len(n)-1], Bound: n[len(n)-1]})
	}
	return q
}

// checkDual solves the dual program: the least sum of bounds with multipliers that combine the rows to the objective.
func checkDual(t *testing.T, p api.Program, value api.Number) {
	t.Helper()
	var dual api.Program
	for i, r := range p.Rows {
		b, _ := rational.Read(r.Bound)
		dual.Objective = append(dual.Objective, rational.Neg(b).Number())
		l := slices.Repeat([]api.Number{"0"}, len(p.Rows))
		l[i] = "-1"
		dual.Rows = append(dual.Rows, api.Row{Coefficients: l, Bound: "0"})
	}
	for k, c := range p.Objective {
		var l []api.Number
		for _, r := range p.Rows {
			l = append(l, r.Coefficients[k])
		}
		both, e := Equation(l, c)
		if e != api.OK {
			t.Fatal(e)
		}
		dual.Rows = append(dual.Rows, both...)
	}
	o, e := Solve(dual)
	v, _ := rational.Read(o.Value)
	if e != api.OK || o.Kind != api.Optimal || rational.Neg(v).Number() != value {
		t.Fatalf("the dual program of %v has %+v, not %s", p, o, value)
	}
}

// P6.3
func TestVerify(t *testing.T) {
	p := program1("1 1", "1 0 <= 2, 0 1 <= 3, 1 1 <= 4")
	infeasible := program1("0", "1 <= 1, -1 <= -2")
	unbounded := program1("1 0", "-1 0 <= 0, 0 1 <= 1")
	for i, c := range []struct {
		p api.Program
		o api.Outcome
		e api.Errno
	}{
		{p, api.Outcome{Kind: api.Optimal, Value: "4", Point: numbers("1 3"), Duals: numbers("0 0 1")}, api.OK},
		{p, api.Outcome{Kind: api.Optimal, Value: "4", Point: numbers("2 2"), Duals: numbers("0 0 1")}, api.OK},
		{p, api.Outcome{Kind: api.Optimal, Value: "5", Point: numbers("2 3"), Duals: numbers("1 1 0")}, api.ErrCertificate}, // the point does not fulfil the last row
		{p, api.Outcome{Kind: api.Optimal, Value: "3", Point: numbers("1 2"), Duals: numbers("0 0 1")}, api.ErrCertificate},
		{p, api.Outcome{Kind: api.Optimal, Value: "4", Point: numbers("1 2"), Duals: numbers("0 0 1")}, api.ErrCertificate},
		{p, api.Outcome{Kind: api.Optimal, Value: "4", Point: numbers("1 3"), Duals: numbers("1 1 0")}, api.ErrCertificate},
		{p, api.Outcome{Kind: api.Optimal, Value: "4", Point: numbers("1 3"), Duals: numbers("1 0 1")}, api.ErrCertificate},
		{program1("1 1", "1 1 <= 4, -1 0 <= 0, 1 0 <= 0, 0 1 <= 4"), api.Outcome{Kind: api.Optimal, Value: "4", Point: numbers("0 4"), Duals: numbers("2 0 -1 -1")}, api.ErrCertificate},
		{p, api.Outcome{Kind: 0, Value: "x"}, api.ErrKind}, {p, api.Outcome{Kind: 4}, api.ErrKind},
		{p, api.Outcome{Kind: api.Optimal, Value: "4", Point: numbers("1"), Duals: numbers("0 0 1")}, api.ErrSize},
		{p, api.Outcome{Kind: api.Optimal, Value: "4", Point: numbers("1 3"), Duals: numbers("0 1")}, api.ErrSize},
		{p, api.Outcome{Kind: api.Optimal, Value: "x", Point: numbers("1 3"), Duals: numbers("0 0 1"), Ray: numbers("0 0")}, api.ErrSize},
		{p, api.Outcome{Kind: api.Optimal, Value: "", Point: numbers("1 3"), Duals: numbers("0 0 1")}, api.ErrSyntax},
		{p, api.Outcome{Kind: api.Optimal, Value: "4", Point: numbers("1 2/4"), Duals: numbers("0 0 x")}, api.ErrForm},
		{p, api.Outcome{Kind: api.Optimal, Value: "1/0", Point: numbers("1 2/4"), Duals: numbers("0 0 x")}, api.ErrZero},
		{p, api.Outcome{Kind: api.Optimal, Value: "4", Point: numbers("1 3"), Duals: numbers("0 0 x")}, api.ErrSyntax},
		{infeasible, api.Outcome{Kind: api.Infeasible, Duals: numbers("1 1")}, api.OK},
		{infeasible, api.Outcome{Kind: api.Infeasible, Duals: numbers("1/3 1/3")}, api.OK},
		{infeasible, api.Outcome{Kind: api.Infeasible, Duals: numbers("1 2")}, api.ErrCertificate},
		{infeasible, api.Outcome{Kind: api.Infeasible, Duals: numbers("0 0")}, api.ErrCertificate},
		{infeasible, api.Outcome{Kind: api.Infeasible, Duals: numbers("-1 -1")}, api.ErrCertificate},
		{infeasible, api.Outcome{Kind: api.Infeasible, Value: "0", Duals: numbers("1 1")}, api.ErrSize},
		{infeasible, api.Outcome{Kind: api.Infeasible, Point: numbers("0"), Duals: numbers("1 1")}, api.ErrSize},
		{infeasible, api.Outcome{Kind: api.Infeasible, Duals: numbers("1")}, api.ErrSize},
		{infeasible, api.Outcome{Kind: api.Infeasible, Duals: numbers("1 1"), Ray: numbers("1")}, api.ErrSize},
		{unbounded, api.Outcome{Kind: api.Unbounded, Point: numbers("0 0"), Ray: numbers("1 0")}, api.OK},
		{unbounded, api.Outcome{Kind: api.Unbounded, Point: numbers("0 -5"), Ray: numbers("1/2 -1")}, api.OK},
		{unbounded, api.Outcome{Kind: api.Unbounded, Point: numbers("0 2"), Ray: numbers("1 0")}, api.ErrCertificate},
		{unbounded, api.Outcome{Kind: api.Unbounded, Point: numbers("0 0"), Ray: numbers("1 1")}, api.ErrCertificate},
		{unbounded, api.Outcome{Kind: api.Unbounded, Point: numbers("0 0"), Ray: numbers("0 -1")}, api.ErrCertificate},
		{unbounded, api.Outcome{Kind: api.Unbounded, Value: "0", Point: numbers("0 0"), Ray: numbers("1 0")}, api.ErrSize},
		{unbounded, api.Outcome{Kind: api.Unbounded, Point: numbers("0 0"), Duals: numbers("0 0"), Ray: numbers("1 0")}, api.ErrSize},
		{unbounded, api.Outcome{Kind: api.Unbounded, Point: numbers("0 0"), Ray: numbers("1")}, api.ErrSize},
		{unbounded, api.Outcome{Kind: api.Unbounded, Point: numbers("0 0"), Ray: numbers("1 x")}, api.ErrSyntax},
	} {
		if e := Verify(c.p, c.o); e != c.e {
			t.Errorf("%d: Verify: %d, not %d", i, e, c.e)
		}
	}
}

// P6.4
func TestFeasibleAndHolds(t *testing.T) {
	l := rows("1 1 <= 2, -1 0 <= 0, 0 -1 <= 0")
	o, e := Feasible(2, l)
	if e != api.OK || o.Kind != api.Optimal || o.Value != "0" {
		t.Errorf("Feasible = %+v, %d", o, e)
	}
	if is, e := Holds(o.Point, l); !is || e != api.OK {
		t.Errorf("Holds = %t, %d", is, e)
	}
	for text, want := range map[string]bool{"0 0": true, "1 1": true, "3/2 2/3": false, "-1 0": false, "0 2": true} {
		if is, e := Holds(numbers(text), l); is != want || e != api.OK {
			t.Errorf("Holds(%s) = %t, %d", text, is, e)
		}
	}
	if is, e := Holds(nil, nil); !is || e != api.OK {
		t.Errorf("Holds = %t, %d", is, e)
	}
	if o, e := Feasible(0, rows("<= -1")); e != api.OK || o.Kind != api.Infeasible || !slices.Equal(o.Duals, numbers("1")) {
		t.Errorf("Feasible = %+v, %d", o, e)
	}
}

// P6.5
func TestRedundantAndReduce(t *testing.T) {
	l := rows("1 <= 1, 1 <= 2, 1 <= 1")
	for i, want := range []bool{true, true, true} {
		if is, e := Redundant(1, l, i); is != want || e != api.OK {
			t.Errorf("Redundant(%d) = %t, %d", i, is, e)
		}
	}
	for _, i := range []int{-1, 3} {
		if is, e := Redundant(1, l, i); is || e != api.ErrRange {
			t.Errorf("Redundant(%d) = %t, %d", i, is, e)
		}
	}
	if is, e := Redundant(1, rows("1 <= 1, 1 <= 2"), 0); is || e != api.OK {
		t.Errorf("Redundant = %t, %d", is, e)
	}
	for _, c := range []struct {
		text string
		want []int
	}{
		{"1 0 <= 1, 1 0 <= 2, 1 0 <= 1", []int{0}}, {"", nil}, {"0 0 <= 0", nil}, {"0 0 <= 1, 1 0 <= 1", []int{1}},
		{"1 0 <= 1, 0 1 <= 1, 1 1 <= 2", []int{0, 1}}, {"1 1 <= 2, 1 0 <= 1, 0 1 <= 1", []int{1, 2}}, {"1 0 <= 1, 0 1 <= 1, 1 1 <= 3/2", []int{0, 1, 2}},
		{"1 0 <= 0, -1 0 <= -1, 0 1 <= 0", []int{0, 1}}, {"0 1 <= 0, 0 0 <= -1, 1 0 <= 0", []int{1}}, {"-1 0 <= 0, 0 -1 <= 0, 1 0 <= 1, 0 1 <= 1, 1 1 <= 2", []int{0, 1, 2, 3}},
	} {
		got, e := Reduce(2, rows(c.text))
		if !slices.Equal(got, c.want) || e != api.OK {
			t.Errorf("Reduce(%s) = %d, %d", c.text, got, e)
		}
	}
}

// P6.5, P6.8
func TestReducedRowsSayTheSame(t *testing.T) {
	r := rand.New(rand.NewSource(8))
	for range 150 {
		p := random(r)
		kept, e := Reduce(len(p.Objective), p.Rows)
		q := api.Program{Objective: p.Objective}
		for _, i := range kept {
			q.Rows = append(q.Rows, p.Rows[i])
		}
		o, _ := Solve(p)
		x, _ := Solve(q)
		if e != api.OK || o.Kind != x.Kind || o.Value != x.Value || !slices.IsSorted(kept) {
			t.Fatalf("Reduce(%v) = %d", p, kept)
		}
		for i := range q.Rows {
			if is, _ := Redundant(len(p.Objective), q.Rows, i); is {
				t.Fatalf("Reduce(%v) = %d, of which %d follows", p, kept, kept[i])
			}
		}
	}
}

// P6.6
func TestExtentAndInner(t *testing.T) {
	triangle := "-1 0 <= 0, 0 -1 <= 0, 1 1 <= 1"
	for _, c := range []struct {
		form, rows string
		x          api.Interval
		e          api.Errno
	}{
		{"1 2", triangle, api.Interval{Low: "0", High: "2", LowEnd: api.Closed, HighEnd: api.Closed}, api.OK},
		{"1 -1/2", triangle, api.Interval{Low: "-1/2", High: "1", LowEnd: api.Closed, HighEnd: api.Closed}, api.OK},
		{"1 0", "-1 0 <= 0", api.Interval{Low: "0", LowEnd: api.Closed, HighEnd: api.Infinite}, api.OK},
		{"-1 0", "-1 0 <= 3", api.Interval{High: "3", LowEnd: api.Infinite, HighEnd: api.Closed}, api.OK},
		{"0 1", "-1 0 <= 0", api.Interval{LowEnd: api.Infinite, HighEnd: api.Infinite}, api.OK},
		{"0 0", "", api.Interval{Low: "0", High: "0", LowEnd: api.Closed, HighEnd: api.Closed}, api.OK},
		{"1 0", "0 1 <= 0, 0 -1 <= -1", api.Interval{}, api.ErrInfeasible},
	} {
		if x, e := Extent(numbers(c.form), rows(c.rows)); x != c.x || e != c.e {
			t.Errorf("Extent(%s; %s) = %v, %d", c.form, c.rows, x, e)
		}
	}
	for _, c := range []struct {
		rows string
		e    api.Errno
	}{{triangle, api.OK}, {"", api.OK}, {triangle + ", -1 -1 <= -1", api.ErrInfeasible}, {"0 0 <= 0", api.ErrInfeasible}, {"0 0 <= 1/9", api.OK}, {"1 0 <= -7, -1 0 <= 8", api.OK}, {"1 0 <= 0, -1 0 <= -1", api.ErrInfeasible}, {"1 0 <= 0, -1 0 <= 0", api.ErrInfeasible}} {
		l := rows(c.rows)
		x, e := Inner(2, l)
		if e != c.e || e == api.OK && len(x) != 2 || e != api.OK && x != nil {
			t.Errorf("Inner(%s) = %s, %d", c.rows, x, e)
			continue
		}
		for _, r := range l {
			a, _ := rational.Reads(r.Coefficients)
			b, _ := rational.Read(r.Bound)
			if p, _ := rational.Reads(x); e == api.OK && rational.Compare(dot(a, p), b) >= 0 {
				t.Errorf("Inner(%s) = %s", c.rows, x)
			}
		}
	}
	if x, e := Inner(api.MaxVariables, many(api.MaxVariables, 0).Rows); e != api.OK || len(x) != api.MaxVariables {
		t.Errorf("Inner: %d", e)
	}
	if _, e := Inner(1, many(1, api.MaxRows).Rows); e != api.ErrInfeasible {
		t.Errorf("Inner: %d", e)
	}
}

// P6.7
func TestEquation(t *testing.T) {
	l, e := Equation(numbers("1 -1/2 0"), "3/4")
	if want := rows("1 -1/2 0 <= 3/4, -1 1/2 0 <= -3/4"); e != api.OK || !slices.EqualFunc(l, want, func(a, b api.Row) bool {
		return a.Bound == b.Bound && slices.Equal(a.Coefficients, b.Coefficients)
	}) {
		t.Errorf("Equation = %v, %d", l, e)
	}
	for i, c := range []struct {
		l     []api.Number
		value api.Number
		e     api.Errno
	}{{many(api.MaxVariables+1, 0).Objective, "x", api.ErrLimit}, {many(api.MaxVariables, 0).Objective, "0", api.OK}, {numbers("1 x"), "2/4", api.ErrSyntax}, {numbers("1 1"), "2/4", api.ErrForm}} {
		if l, e := Equation(c.l, c.value); e != c.e || e != api.OK && l != nil {
			t.Errorf("%d: Equation: %d", i, e)
		}
	}
}

// P6.8
func TestFurtherRows(t *testing.T) {
	r := rand.New(rand.NewSource(9))
	for range 300 {
		p := random(r)
		o, _ := Solve(p)
		if o.Kind != api.Optimal || len(p.Rows) == 0 {
			continue
		}
		v, _ := rational.Read(o.Value)
		less := api.Program{Objective: p.Objective, Rows: p.Rows[:len(p.Rows)-1]}
		x, _ := Solve(less)
		if w, _ := rational.Read(x.Value); x.Kind == api.Infeasible || x.Kind == api.Optimal && rational.Compare(w, v) < 0 {
			t.Errorf("without the last row, %v has %+v, not %s", p, x, o.Value)
		}
		follows := api.Row{Coefficients: p.Objective, Bound: o.Value}
		more := api.Program{Objective: p.Objective, Rows: append(slices.Clone(p.Rows), follows)}
		if is, _ := Redundant(len(p.Objective), more.Rows, len(p.Rows)); !is {
			t.Errorf("the bound of %v does not follow", p)
		}
	}
}

func TestArgumentsRemain(t *testing.T) {
	p := program1("1 1", "1 0 <= 2, 0 1 <= 3, 1 1 <= 4")
	Solve(p)
	Redundant(2, p.Rows, 0)
	Reduce(2, p.Rows)
	Inner(2, p.Rows)
	c := numbers("1 2")
	l, _ := Equation(c, "3")
	l[0].Coefficients[0] = "9"
	if q := program1("1 1", "1 0 <= 2, 0 1 <= 3, 1 1 <= 4"); !slices.Equal(p.Objective, q.Objective) || !slices.EqualFunc(p.Rows, q.Rows, func(a, b api.Row) bool { return a.Bound == b.Bound && slices.Equal(a.Coefficients, b.Coefficients) }) || c[0] != "1" {
		t.Error("an argument has changed")
	}
}

// A program at all limits.
func large(seed int64) api.Program {
	r := rand.New(rand.NewSource(seed))
	p := many(api.MaxVariables, api.MaxRows)
	for i := range p.Objective {
		p.Objective[i] = rational.From(r.Intn(21) - 5).Number()
	}
	for i := range p.Rows {
		for k := range p.Rows[i].Coefficients {
			if r.Intn(8) == 0 {
				p.Rows[i].Coefficients[k] = rational.From(r.Intn(19) - 4).Number()
			}
		}
		p.Rows[i].Bound = rational.From(r.Intn(100)).Number()
		if i < api.MaxVariables {
			p.Rows[i] = many(api.MaxVariables, 1).Rows[0]
			p.Rows[i].Coefficients[i] = "-1"
		}
	}
	return p
}

func TestLargeProgram(t *testing.T) {
	p := large(1)
	o, e := Solve(p)
	if e != api.OK || Verify(p, o) != api.OK {
		t.Errorf("Solve: %d, %d", e, Verify(p, o))
	}
}

func BenchmarkSolve(b *testing.B) {
	p := large(2)
	for b.Loop() {
		Solve(p)
	}
}
