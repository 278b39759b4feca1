package simulator

import (
	"fmt"
	"math/rand"
	"slices"
	"strings"
	"testing"

	"dowel/api"
	"dowel/assembly"
	"dowel/bounded"
	"dowel/interval"
	"dowel/plan"
	"dowel/planner"
	"dowel/rational"
	"dowel/solid"
	"dowel/sweep"
	"dowel/vector"
)

func box(x, y, z, a, b, c int) api.Cell {
	return api.Cell{Vertices: []api.Vector{{x, y, z}, {x, y, c}, {x, b, z}, {x, b, c}, {a, y, z}, {a, y, c}, {a, b, z}, {a, b, c}}}
}

// build returns an assembly whose instances stay where the cells of their parts are.
func build(parts ...[]api.Cell) api.Assembly {
	var a api.Assembly
	for i, cells := range parts {
		name := string(rune('a' + i))
		a.Parts = append(a.Parts, api.Part{Name: name, Density: 1, Cells: cells})
		a.Instances = append(a.Instances, api.Instance{Name: name, Part: name, Place: api.Placement{Turn: [4]int{1, 0, 0, 0}, Shift: api.Point{"0", "0", "0"}}})
	}
	return a
}

func cube(x, y, z int) []api.Cell { return []api.Cell{box(x, y, z, x+1, y+1, z+1)} }

func point(text string) api.Point {
	var p api.Point
	for i, word := range strings.Fields(text) {
		p[i] = api.Number(word)
	}
	return p
}

// zeros returns no shifts for so many instances.
func zeros(n int) []api.Point { return slices.Repeat([]api.Point{point("0 0 0")}, n) }

func motion(direction string, distance api.Number, n int, moved, still []int) Motion {
	return Motion{moved, still, zeros(n), point(direction), distance}
}

func steps(l ...api.Step) api.Plan {
	return api.Plan{Kind: api.Kind{Blocking: api.Far}, Steps: l}
}

func step(direction string, distance api.Number, moved ...int) api.Step {
	return api.Step{Moved: moved, Direction: point(direction), Distance: distance}
}

// show writes events, as "1 meets 0 1".
func show(l []Event) string {
	var words []string
	for _, e := range l {
		words = append(words, fmt.Sprintf("%s %s %d %d", e.Time, []string{"", "meets", "parts", "enters", "leaves"}[e.Kind], e.A, e.B))
	}
	return strings.Join(words, ", ")
}

// P30.1
func TestMotionsAndPositions(t *testing.T) {
	a := build(cube(0, 0, 0), cube(2, 0, 0), cube(4, 0, 0), cube(6, 0, 0))
	p := steps(step("0 0 1", "3/2", 0, 1), step("0 1 0", "", 2), step("1 0 0", "2", 1), step("1 0 0", "", 1))
	l, e := Motions(a, p)
	none := api.Point{}
	want := []Motion{
		{[]int{0, 1}, []int{2, 3}, zeros(4), point("0 0 1"), "3/2"},
		{[]int{2}, []int{0, 1, 3}, []api.Point{point("0 0 3/2"), point("0 0 3/2"), point("0 0 0"), point("0 0 0")}, point("0 1 0"), ""},
		{[]int{1}, []int{0, 3}, []api.Point{point("0 0 3/2"), point("0 0 3/2"), none, point("0 0 0")}, point("1 0 0"), "2"},
		{[]int{1}, []int{0, 3}, []api.Point{point("0 0 3/2"), point("2 0 3/2"), none, point("0 0 0")}, point("1 0 0"), ""},
	}
	if fmt.Sprint(l) != fmt.Sprint(want) || e != api.OK {
		t.Errorf("Motions = %v, %d", l, e)
	}
	s := api.Plan{Kind: api.Kind{Blocking: api.Far}, Splits: []api.Split{{Whole: []int{0, 1, 2, 3}, Moved: []int{0, 2}, Direction: point("0 0 1")}, {Whole: []int{1, 3}, Moved: []int{3}, Direction: point("1 0 0")}}}
	l, e = Motions(a, s)
	want = []Motion{{[]int{0, 2}, []int{1, 3}, zeros(4), point("0 0 1"), ""}, {[]int{3}, []int{1}, []api.Point{none, point("0 0 0"), none, point("0 0 0")}, point("1 0 0"), ""}}
	if fmt.Sprint(l) != fmt.Sprint(want) || e != api.OK {
		t.Errorf("Motions = %v, %d", l, e)
	}
	for i, c := range []struct {
		p      api.Plan
		motion int
		time   api.Number
		want   []api.Point
		e      api.Errno
	}{
		{p, 0, "3/2", []api.Point{point("0 0 3/2"), point("0 0 3/2"), point("0 0 0"), point("0 0 0")}, api.OK}, {p, 2, "1/2", []api.Point{point("0 0 3/2"), point("1/2 0 3/2"), none, point("0 0 0")}, api.OK}, {p, 3, "100", []api.Point{point("0 0 3/2"), point("102 0 3/2"), none, point("0 0 0")}, api.OK}, {s, 1, "7", []api.Point{none, point("0 0 0"), none, point("7 0 0")}, api.OK},
		{p, 4, "x", nil, api.ErrRange}, {p, -1, "x", nil, api.ErrRange}, {p, 0, "x", nil, api.ErrSyntax}, {p, 0, "2/4", nil, api.ErrForm}, {p, 0, "-1/2", nil, api.ErrRange}, {p, 0, "2", nil, api.ErrRange},
	} {
		if l, e := Positions(a, c.p, c.motion, c.time); !slices.Equal(l, c.want) || e != c.e {
			t.Errorf("%d: Positions = %v, %d", i, l, e)
		}
	}
}

func TestErrorsOfPlans(t *testing.T) {
	bad := build(cube(0, 0, 0))
	bad.Instances[0].Part = "none"
	for i, c := range []struct {
		a api.Assembly
		p api.Plan
		e api.Errno
	}{{bad, api.Plan{}, api.ErrUnknown}, {api.Assembly{}, api.Plan{}, api.ErrEmpty}, {build(cube(0, 0, 0)), api.Plan{}, api.ErrKind}, {build(cube(0, 0, 0), cube(0, 0, 0)), steps(step("1 0 0", "", 5)), api.ErrRange}} {
		l, e1 := Motions(c.a, c.p)
		q, e2 := Positions(c.a, c.p, -1, "x")
		r, e3 := Run(c.a, c.p)
		f, e4 := Final(c.a, c.p)
		if e1 != c.e || e2 != c.e || e3 != c.e || e4 != c.e || l != nil || q != nil || r.Motions != 0 || r.Left != nil || r.Clear || f.Parts != nil {
			t.Errorf("%d: %d, %d, %d, %d, not %d", i, e1, e2, e3, e4, c.e)
		}
	}
}

func TestErrorsOfMotions(t *testing.T) {
	a := build(cube(0, 0, 0), cube(2, 0, 0), cube(4, 0, 0))
	bad := build(cube(0, 0, 0))
	bad.Parts[0].Density = 0
	good := motion("1 0 0", "5", 3, []int{0}, []int{1})
	with := func(f func(*Motion)) Motion {
		m := good
		m.Shifts = slices.Clone(good.Shifts)
		f(&m)
		return m
	}
	for i, c := range []struct {
		a api.Assembly
		m Motion
		e api.Errno
	}{
		{bad, Motion{}, api.ErrRange}, {a, Motion{}, api.ErrEmpty}, {a, with(func(m *Motion) { m.Moved = []int{3}; m.Still = []int{1, 0} }), api.ErrRange}, {a, with(func(m *Motion) { m.Still = []int{1, 0}; m.Shifts = nil }), api.ErrOrder}, {a, with(func(m *Motion) { m.Still = []int{0}; m.Shifts = nil }), api.ErrConflict}, {a, with(func(m *Motion) { m.Shifts = zeros(2); m.Direction = api.Point{} }), api.ErrSize}, {a, with(func(m *Motion) { m.Shifts[1][2] = "x"; m.Shifts[0][1] = "2/4" }), api.ErrForm}, {a, with(func(m *Motion) { m.Shifts[1] = api.Point{}; m.Direction = api.Point{} }), api.ErrSyntax}, {a, with(func(m *Motion) { m.Shifts[2] = api.Point{}; m.Direction = point("2 0 0") }), api.ErrForm}, {a, with(func(m *Motion) { m.Direction = point("0 0 0"); m.Distance = "x" }), api.ErrZero}, {a, with(func(m *Motion) { m.Distance = "x" }), api.ErrSyntax}, {a, with(func(m *Motion) { m.Distance = "0" }), api.ErrRange}, {a, with(func(m *Motion) { m.Distance = "-5" }), api.ErrRange},
	} {
		x, y, is, e1 := Interferes(c.a, c.m, "x")
		first, found, e2 := Until(c.a, c.m)
		l, e3 := Events(c.a, c.m)
		if e1 != c.e || e2 != c.e || e3 != c.e || x != 0 || y != 0 || is || first != (Event{}) || found || l != nil {
			t.Errorf("%d: %d, %d, %d, not %d", i, e1, e2, e3, c.e)
		}
	}
	for n, want := range map[api.Number]api.Errno{"x": api.ErrSyntax, "-1": api.ErrRange, "6": api.ErrRange, "5": api.OK, "0": api.OK} {
		if _, _, _, e := Interferes(a, good, n); e != want {
			t.Errorf("Interferes at %s: %d", n, e)
		}
	}
	if l, e := Events(a, motion("1 0 0", "", 3, []int{0, 1, 2}, nil)); len(l) != 0 || e != api.OK {
		t.Errorf("Events = %v, %d", l, e)
	}
}

// P30.2
func TestInterferes(t *testing.T) {
	a := build(cube(0, 0, 0), cube(0, 0, 5), cube(2, 0, 5), cube(2, 0, 0))
	m := motion("1 0 0", "", 4, []int{0, 1}, []int{2, 3})
	for n, want := range map[api.Number]string{"0": "0 0 false", "1": "0 0 false", "3/2": "0 3 true", "5": "0 0 false"} {
		x, y, is, e := Interferes(a, m, n)
		if got := fmt.Sprint(x, y, is); got != want || e != api.OK {
			t.Errorf("Interferes at %s = %s, %d", n, got, e)
		}
	}
	m.Shifts[0] = point("0 0 20")
	if x, y, is, _ := Interferes(a, m, "3/2"); x != 1 || y != 2 || !is {
		t.Errorf("Interferes = %d, %d, %t", x, y, is)
	}
}

// P30.3
func TestEventsAndUntil(t *testing.T) {
	two := build(cube(0, 0, 0), cube(2, 0, 0))
	beside := build(cube(0, 0, 0), cube(0, 1, 0))
	edge := build(cube(0, 0, 0), cube(2, 1, 0))
	inside := build(cube(0, 0, 0), cube(0, 0, 0))
	double := build(cube(0, 0, 0), []api.Cell{box(2, 0, 0, 3, 1, 1), box(4, 0, 0, 5, 1, 1)})
	for i, c := range []struct {
		a         api.Assembly
		direction string
		distance  api.Number
		events    string
		until     api.Number
	}{
		{two, "1 0 0", "", "1 meets 0 1, 1 enters 0 1, 3 parts 0 1, 3 leaves 0 1", "1"}, {two, "1 0 0", "2", "1 meets 0 1, 1 enters 0 1", "1"}, {two, "1 0 0", "1", "1 meets 0 1", ""}, {two, "1 0 0", "3", "1 meets 0 1, 1 enters 0 1, 3 leaves 0 1", "1"}, {two, "-1 0 0", "", "", ""}, {two, "1 0 0", "1/2", "", ""},
		{beside, "1 0 0", "", "0 meets 0 1, 1 parts 0 1", ""}, {beside, "0 -1 0", "", "0 meets 0 1, 0 parts 0 1", ""}, {beside, "0 1 0", "", "0 meets 0 1, 0 enters 0 1, 2 parts 0 1, 2 leaves 0 1", "0"}, {edge, "1 0 0", "", "1 meets 0 1, 3 parts 0 1", ""}, {edge, "3 1 0", "", "1/3 meets 0 1, 1/3 enters 0 1, 1 parts 0 1, 1 leaves 0 1", "1/3"}, {inside, "0 0 1", "", "0 meets 0 1, 0 enters 0 1, 1 parts 0 1, 1 leaves 0 1", "0"}, {double, "1 0 0", "", "1 meets 0 1, 1 enters 0 1, 3 enters 0 1, 3 leaves 0 1, 5 parts 0 1, 5 leaves 0 1", "1"},
	} {
		m := motion(c.direction, c.distance, 2, []int{0}, []int{1})
		l, e := Events(c.a, m)
		if show(l) != c.events || e != api.OK {
			t.Errorf("%d: Events = %s, %d", i, show(l), e)
		}
		first, is, e := Until(c.a, m)
		if first.Time != c.until || is != (c.until != "") || is && (first.Kind != Enters || first.B != 1) || !is && first != (Event{}) || e != api.OK {
			t.Errorf("%d: Until = %v, %t, %d", i, first, is, e)
		}
	}
	// Events of several instances are in order.
	three := build(cube(0, 0, 0), cube(0, 0, 3), cube(2, 0, 3), cube(2, 0, 0))
	l, e := Events(three, motion("1 0 0", "2", 4, []int{0, 1}, []int{2, 3}))
	if want := "1 meets 0 3, 1 enters 0 3, 1 meets 1 2, 1 enters 1 2"; show(l) != want || e != api.OK {
		t.Errorf("Events = %s, %d", show(l), e)
	}
}

// P30.4
func TestRunAndFinal(t *testing.T) {
	a := build(cube(0, 0, 0), cube(2, 0, 0), cube(4, 0, 0))
	for i, c := range []struct {
		p    api.Plan
		want string
	}{
		{steps(step("0 0 1", "", 0), step("1 0 0", "1", 1)), "{2 true {0 0 0 0 } [1 2]}"}, {steps(step("0 0 1", "", 0), step("1 0 0", "5/2", 1), step("0 0 1", "", 1)), "{3 false {1 3 1 2 1} [2]}"}, {steps(), "{0 true {0 0 0 0 } [0 1 2]}"}, {api.Plan{Kind: api.Kind{Blocking: api.Far}, Splits: []api.Split{{Whole: []int{0, 1, 2}, Moved: []int{0, 1}, Direction: point("1 0 0")}, {Whole: []int{0, 1}, Moved: []int{0}, Direction: point("1 0 0")}}}, "{2 false {0 3 1 2 1} [0 1 2]}"},
	} {
		r, e := Run(a, c.p)
		if got := fmt.Sprint(r); got != c.want || e != api.OK {
			t.Errorf("%d: Run = %s, %d", i, got, e)
		}
	}
	f, e := Final(a, steps(step("0 0 1", "", 0), step("1 0 0", "1", 1), step("0 1 0", "1/2", 2), step("0 0 1", "", 1)))
	if len(f.Instances) != 1 || f.Instances[0].Name != "c" || f.Instances[0].Place.Shift != point("0 1/2 0") || len(f.Parts) != 3 || e != api.OK {
		t.Errorf("Final = %v, %d", f, e)
	}
	if f, e := Final(a, steps(step("0 0 1", "5", 0))); f.Instances[0].Place.Shift != point("0 0 5") || len(f.Instances) != 3 || e != api.OK {
		t.Errorf("Final = %v, %d", f, e)
	}
	s := api.Plan{Kind: api.Kind{Blocking: api.Far}, Splits: []api.Split{{Whole: []int{0, 1, 2}, Moved: []int{0}, Direction: point("0 0 1")}}}
	if f, e := Final(a, s); !assembly.Equal(f, a) || e != api.OK {
		t.Errorf("Final = %v, %d", f, e)
	}
}

// random returns an assembly of instances with two cells each.
func random(r *rand.Rand, count int) api.Assembly {
	var parts [][]api.Cell
	for range count {
		x, y, z := r.Intn(5), r.Intn(3), r.Intn(3)
		parts = append(parts, []api.Cell{box(x, y, z, x+1, y+1+r.Intn(2), z+1), {Vertices: []api.Vector{{x, y, z + 1}, {x, y, z + 3}, {x, y + 1, z + 1}, {x + 1, y, z + 1}}}})
	}
	return build(parts...)
}

// P30.5, and promise P2: the simulator and the meeting sets say the same about what is in the way.
func TestAgainstMeetingSets(t *testing.T) {
	r := rand.New(rand.NewSource(1))
	for range 80 {
		a := random(r, 2)
		solids, e := assembly.Place(a)
		if e != api.OK {
			t.Fatal(e)
		}
		d := vector.Of(api.Vector{r.Intn(5) - 2, r.Intn(3) - 1, 1})
		m := motion("0 0 1", "", 2, []int{0}, []int{1})
		m.Direction = d.Point()
		m.Shifts[0] = point("1/2 0 -2")
		v, _ := vector.Read(m.Shifts[0])
		moved := solid.Shift(solids[0], v)
		set, _ := sweep.Meeting(moved, solids[1], d)
		l, e := Events(a, m)
		if e != api.OK {
			t.Fatal(e)
		}
		// The times from 0 on at which both penetrate are those between Enters and Leaves.
		after, _ := interval.Intersect(set, []api.Interval{{Low: "0", LowEnd: api.Closed, HighEnd: api.Infinite}})
		var enters, leaves []api.Number
		for _, x := range l {
			switch x.Kind {
			case Enters:
				enters = append(enters, x.Time)
			case Leaves:
				leaves = append(leaves, x.Time)
			}
		}
		if len(enters) != len(after) || len(leaves) != len(after) {
			t.Fatalf("%s, but the meeting set is %v", show(l), after)
		}
		for i, x := range after {
			if x.Low != enters[i] || x.High != leaves[i] {
				t.Fatalf("%s, but the meeting set is %v", show(l), after)
			}
		}
		checkTimes(t, a, m, moved, solids[1], d, l)
	}
}

// checkTimes compares what happens between events with the status at some times.
func checkTimes(t *testing.T, a api.Assembly, m Motion, x, y solid.Solid, d vector.Vec, l []Event) {
	t.Helper()
	for i := range 20 {
		time, _ := rational.Div(rational.From(i), rational.From(3))
		at, _ := sweep.At(x, y, d, time)
		_, _, is, e := Interferes(a, m, time.Number())
		touches := false
		for _, event := range l {
			when, _ := rational.Read(event.Time)
			switch c := rational.Compare(when, time); {
			case event.Kind == Meets && c <= 0:
				touches = true
			case event.Kind == Parts && c < 0:
				touches = false
			}
		}
		if e != api.OK || is != (at == api.Meeting) || touches != (at != api.Apart) {
			t.Fatalf("at %s the status is %d, but %t, and the events are %s", time.Number(), at, is, show(l))
		}
	}
}

// P30.5: a motion back has the events of the motion, exchanged.
func TestBack(t *testing.T) {
	r := rand.New(rand.NewSource(2))
	for range 60 {
		a := random(r, 2)
		d := vector.Of(api.Vector{r.Intn(5) - 2, r.Intn(3) - 1, 1})
		distance := rational.From(6)
		m := Motion{[]int{0}, []int{1}, zeros(2), d.Point(), distance.Number()}
		back := Motion{[]int{0}, []int{1}, zeros(2), vector.Neg(d).Point(), distance.Number()}
		back.Shifts[0] = vector.Scale(d, distance).Point()
		forth, e1 := Events(a, m)
		l, e2 := Events(a, back)
		if e1 != api.OK || e2 != api.OK {
			t.Fatalf("%d, %d", e1, e2)
		}
		inner := func(l []Event, reverse bool) string {
			var kept []Event
			for _, x := range l {
				time, _ := rational.Read(x.Time)
				if time.Sign() == 0 || rational.Compare(time, distance) == 0 {
					continue
				}
				if reverse {
					x.Time, x.Kind = rational.Sub(distance, time).Number(), []int{0, Parts, Meets, Leaves, Enters}[x.Kind]
				}
				kept = append(kept, x)
			}
			slices.SortFunc(kept, func(x, y Event) int { return strings.Compare(fmt.Sprint(x), fmt.Sprint(y)) })
			return show(kept)
		}
		if inner(forth, false) != inner(l, true) {
			t.Fatalf("%s, and back %s", show(forth), show(l))
		}
	}
}

// Promise P3: plans of the planner, and paths of package bounded, are executed without an interference.
func TestPlansAreClear(t *testing.T) {
	r := rand.New(rand.NewSource(3))
	clear := 0
	for i := range 40 {
		a := random(r, 3)
		if _, _, e := assembly.Sound(a); e != api.OK {
			continue
		}
		kind := api.Kind{Blocking: api.Far}
		if i%2 == 0 {
			kind.Directions = []api.Point{point("1 0 0"), point("-1 0 0"), point("0 0 1")}
		}
		for _, f := range []func() (api.Plan, api.Errno){func() (api.Plan, api.Errno) { return planner.Sequential(a, kind, 1) }, func() (api.Plan, api.Errno) { return planner.TwoHanded(a, kind) }, func() (api.Plan, api.Errno) { return bounded.Plan(a, []api.Point{point("1 0 0"), point("0 0 1")}, 2) }} {
			p, e := f()
			if e != api.OK {
				continue
			}
			clear++
			if r, e := Run(a, p); !r.Clear || r.First != (Event{}) || e != api.OK {
				text, _ := plan.Text(p, 3)
				t.Fatalf("%s: %v, %d", text, r, e)
			}
			checkJoins(t, a, p)
		}
	}
	if clear < 20 {
		t.Errorf("only %d plans", clear)
	}
}

// checkJoins executes a plan of steps to infinity backwards: what is added comes from far away without an interference.
func checkJoins(t *testing.T, a api.Assembly, p api.Plan) {
	t.Helper()
	joins, e := plan.Assemble(p, 3)
	if e != api.OK || slices.ContainsFunc(p.Steps, func(s api.Step) bool { return s.Distance != "" }) {
		return
	}
	far := rational.From(1000)
	for _, j := range joins {
		d, _ := vector.Read(j.Direction)
		m := Motion{j.Added, j.Base, zeros(3), j.Direction, far.Number()}
		for _, i := range j.Added {
			m.Shifts[i] = vector.Scale(d, rational.Neg(far)).Point()
		}
		if _, is, e := Until(a, m); is || e != api.OK {
			t.Fatalf("the join %v interferes: %d", j, e)
		}
	}
}
