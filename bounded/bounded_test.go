package bounded

import (
	"fmt"
	"math/rand"
	"slices"
	"strings"
	"testing"

	"dowel/api"
	"dowel/assembly"
	"dowel/cell"
	"dowel/meeting"
	"dowel/motion"
	"dowel/plan"
	"dowel/rational"
	"dowel/sweep"
	"dowel/vector"
)

func box(x, y, z, a, b, c int) api.Cell {
	return api.Cell{Vertices: []api.Vector{{x, y, z}, {x, y, c}, {x, b, z}, {x, b, c}, {a, y, z}, {a, y, c}, {a, b, z}, {a, b, c}}}
}

// build returns an assembly whose instances stay where the cells of their parts are.
func build(parts ...[]api.Cell) api.Assembly {
	var a api.Assembly
	for i, cells := range parts {
		name := string(rune('a' + i))
		a.Parts = append(a.Parts, api.Part{Name: name, Density: 1, Cells: cells})
		a.Instances = append(a.Instances, api.Instance{Name: name, Part: name, Place: api.Placement{Turn: [4]int{1, 0, 0, 0}, Shift: api.Point{"0", "0", "0"}}})
	}
	return a
}

func cube(x, y, z int) []api.Cell { return []api.Cell{box(x, y, z, x+1, y+1, z+1)} }

func point(text string) api.Point {
	var p api.Point
	for i, word := range strings.Fields(text) {
		p[i] = api.Number(word)
	}
	return p
}

func points(l ...string) []api.Point {
	var p []api.Point
	for _, text := range l {
		p = append(p, point(text))
	}
	return p
}

func axes4() []api.Point { return points("1 0 0", "-1 0 0", "0 1 0", "0 -1 0") }

// channel is a bolt (0) between plates, with a block at both ends (1).
func channel() api.Assembly {
	return build(cube(0, 0, 0), []api.Cell{box(-1, -1, 1, 5, 2, 2), box(-1, -1, -1, 5, 2, 0), box(-1, 0, 0, 0, 1, 1), box(3, 0, 0, 4, 1, 1)})
}

// gap is the channel with a wall on one side that has a gap, and a wall on the other side.
func gap() api.Assembly {
	a := channel()
	a.Parts = append(a.Parts, api.Part{Name: "walls", Density: 1, Cells: []api.Cell{box(-1, 1, 0, 2, 2, 1), box(3, 1, 0, 5, 2, 1), box(-1, -1, 0, 5, 0, 1)}})
	a.Instances = append(a.Instances, api.Instance{Name: "walls", Part: "walls", Place: a.Instances[0].Place})
	return a
}

// show writes steps, as "0 along 1 0 0 by 2; 0 along 0 1 0".
func show(l []api.Step) string {
	var words []string
	for _, s := range l {
		d := s.Direction
		text := strings.Trim(fmt.Sprint(s.Moved), "[]") + " along " + string(d[0]+" "+d[1]+" "+d[2])
		if s.Distance != "" {
			text += " by " + string(s.Distance)
		}
		words = append(words, text)
	}
	return strings.Join(words, "; ")
}

// P27.1
func TestTouch(t *testing.T) {
	shape := func(c api.Cell) cell.Shape {
		s, e := cell.Of(c)
		if e != api.OK {
			t.Fatal(e)
		}
		return s
	}
	a, b := shape(box(0, 0, 0, 1, 1, 1)), shape(box(3, 0, 0, 4, 1, 1))
	for i, c := range []struct {
		b         cell.Shape
		d         string
		low, high api.Number
		touches   bool
	}{{b, "1 0 0", "2", "4", true}, {b, "-1 0 0", "-4", "-2", true}, {b, "2 0 0", "1", "2", true}, {b, "0 1 0", "0", "0", false}, {shape(box(3, 1, 0, 4, 2, 1)), "1 0 0", "2", "4", true}, {shape(box(3, 1, 0, 4, 2, 1)), "2 1 0", "1", "2", true}, {shape(box(1, 1, 1, 2, 2, 2)), "1 -1 0", "0", "0", true}, {shape(box(1, 1, 0, 2, 2, 1)), "1 0 0", "0", "2", true}, {a, "0 0 -1", "-1", "1", true}} {
		d, _ := vector.Read(point(c.d))
		low, high, touches, e := Touch(a, c.b, d)
		if low.Number() != c.low || high.Number() != c.high || touches != c.touches || e != api.OK {
			t.Errorf("%d: Touch = %s, %s, %t, %d", i, low.Number(), high.Number(), touches, e)
		}
	}
	if low, high, touches, e := Touch(a, b, vector.Vec{}); low.Sign() != 0 || high.Sign() != 0 || touches || e != api.ErrZero {
		t.Errorf("Touch: %d", e)
	}
}

// P27.1: at the ends of the interval the shapes touch, beyond them they are apart.
func TestTouchByStatus(t *testing.T) {
	r := rand.New(rand.NewSource(1))
	for range 60 {
		x := r.Intn(5) - 1
		a, _ := cell.Of(box(0, 0, 0, 1, 2, 1))
		b, _ := cell.Of(api.Cell{Vertices: []api.Vector{{x, 0, 0}, {x, 0, 2}, {x, 2, 0}, {x + 2, 0, 0}}})
		d := vector.Of(api.Vector{r.Intn(5) - 2, r.Intn(5) - 2, 1})
		low, high, touches, _ := Touch(a, b, d)
		at := func(time rational.Rat) int {
			m := motion.Identity()
			m.Shift = vector.Scale(d, time)
			return meeting.Status(cell.Place(a, m), b)
		}
		tiny, _ := rational.Read("1/1000")
		if touches && (at(low) != api.Touching || at(high) != api.Touching || at(rational.Sub(low, tiny)) != api.Apart || at(rational.Add(high, tiny)) != api.Apart) {
			t.Fatalf("from %s to %s", low.Number(), high.Number())
		}
		if !touches && at(rational.Rat{}) != api.Apart {
			t.Fatal("no touching interval")
		}
	}
}

// many is a cube (0) that passes by 17 boxes (1 to 3): their touching intervals have 34 ends.
func many(count int) api.Assembly {
	var parts [3][]api.Cell
	for i := range count {
		parts[i/6] = append(parts[i/6], box(4*i+2, 1, 0, 4*i+3, 2, 1))
	}
	return build(cube(0, 0, 0), parts[0], parts[1], parts[2])
}

// P27.2
func TestStops(t *testing.T) {
	sets := [2][]int{{0}, {1}}
	both := [2][]int{{0}, {1, 2}}
	for i, c := range []struct {
		a      api.Assembly
		sets   [2][]int
		offset string
		d      string
		stops  []api.Number
		leaves bool
	}{
		{channel(), sets, "0 0 0", "1 0 0", []api.Number{"2"}, false}, {channel(), sets, "0 0 0", "0 1 0", []api.Number{"1", "2"}, true}, {channel(), sets, "0 0 0", "-1 0 0", nil, false}, {channel(), sets, "2 0 0", "-1 0 0", []api.Number{"2"}, false}, {channel(), sets, "1/2 0 0", "1 0 0", []api.Number{"3/2"}, false},
		{gap(), both, "0 0 0", "0 1 0", nil, false}, {gap(), both, "0 0 0", "1 0 0", []api.Number{"2"}, false}, {gap(), both, "2 0 0", "0 1 0", []api.Number{"1", "2"}, true}, {channel(), [2][]int{{0}, nil}, "0 0 0", "1 0 0", nil, true}, {channel(), [2][]int{{1}, {0}}, "0 0 0", "1 0 0", nil, false}, {build(cube(0, 0, 0), cube(0, 5, 0), cube(2, 1, 0)), [2][]int{{0}, {1, 2}}, "0 0 0", "1 0 0", []api.Number{"1", "3"}, true}, {build(cube(0, 0, 0), cube(0, 2, 0), cube(4, 0, 0)), [2][]int{{0, 1}, {2}}, "0 0 0", "1 0 0", []api.Number{"3"}, false},
	} {
		if stops, leaves, e := Stops(c.a, c.sets, point(c.offset), point(c.d)); !slices.Equal(stops, c.stops) || leaves != c.leaves || e != api.OK {
			t.Errorf("%d: Stops = %s, %t, %d", i, stops, leaves, e)
		}
	}
	if l, leaves, e := Stops(many(16), [2][]int{{0}, {1, 2, 3}}, point("0 0 0"), point("1 0 0")); len(l) != 32 || !leaves || e != api.OK {
		t.Errorf("Stops: %d, %t, %d", len(l), leaves, e)
	}
	if l, leaves, e := Stops(many(17), [2][]int{{0}, {1, 2, 3}}, point("0 0 0"), point("1 0 0")); l != nil || leaves || e != api.ErrLimit {
		t.Errorf("Stops: %d", e)
	}
}

func TestErrorsOfSets(t *testing.T) {
	bad := channel()
	bad.Instances[0].Part = "none"
	thick := build(cube(0, 0, 0), cube(0, 0, 0))
	for i, c := range []struct {
		a         api.Assembly
		set, rest []int
		e         api.Errno
	}{
		{bad, nil, nil, api.ErrUnknown}, {thick, nil, nil, api.ErrPenetrate}, {channel(), nil, []int{9}, api.ErrEmpty}, {channel(), []int{2}, []int{1, 0}, api.ErrRange}, {channel(), []int{1, 0}, []int{9}, api.ErrOrder}, {channel(), []int{0}, []int{-1}, api.ErrRange}, {channel(), []int{0}, []int{1, 1}, api.ErrOrder}, {channel(), []int{1}, []int{0, 1}, api.ErrConflict},
	} {
		if l, leaves, e := Stops(c.a, [2][]int{c.set, c.rest}, api.Point{}, api.Point{}); l != nil || leaves || e != c.e {
			t.Errorf("%d: Stops: %d, not %d", i, e, c.e)
		}
		if l, e := Find(c.a, [2][]int{c.set, c.rest}, nil, 0); l != nil || e != c.e {
			t.Errorf("%d: Find: %d, not %d", i, e, c.e)
		}
	}
	sets := [2][]int{{0}, {1}}
	for i, c := range []struct {
		offset, d string
		e         api.Errno
	}{{"x 0 0", "x 0 0", api.ErrSyntax}, {"1/0 0 0", "2 0 0", api.ErrZero}, {"1/2 0 0", "2 0 0", api.ErrForm}, {"5/2 0 0", "0 0 0", api.ErrZero}, {"5/2 0 0", "1 0 0", api.ErrPenetrate}, {"0 0 -1/9", "1 0 0", api.ErrPenetrate}} {
		if l, leaves, e := Stops(channel(), sets, point(c.offset), point(c.d)); l != nil || leaves || e != c.e {
			t.Errorf("%d: Stops: %d, not %d", i, e, c.e)
		}
	}
}

// P27.3
func TestFind(t *testing.T) {
	sets, both := [2][]int{{0}, {1}}, [2][]int{{0}, {1, 2}}
	for i, c := range []struct {
		a          api.Assembly
		sets       [2][]int
		directions []api.Point
		most       int
		want       string
		e          api.Errno
	}{
		{channel(), sets, axes4(), 1, "0 along 0 1 0", api.OK}, {channel(), sets, points("1 0 0"), 3, "", api.ErrBlocked}, {gap(), both, axes4(), 1, "", api.ErrBlocked}, {gap(), both, axes4(), 2, "0 along 1 0 0 by 2; 0 along 0 1 0", api.OK}, {gap(), both, axes4(), 3, "0 along 1 0 0 by 2; 0 along 0 1 0", api.OK}, {gap(), both, points("0 1 0"), 3, "", api.ErrBlocked}, {channel(), [2][]int{{0, 1}, nil}, axes4(), 1, "0 1 along 1 0 0", api.OK},
		{gap(), both, nil, 0, "", api.ErrEmpty}, {gap(), both, points("2 0 0"), 0, "", api.ErrForm}, {gap(), both, points("1 0 0", "1 0 0"), 0, "", api.ErrDuplicate}, {gap(), both, axes4(), 0, "", api.ErrRange}, {gap(), both, axes4(), 4, "", api.ErrRange}, {gap(), both, slices.Repeat(axes4(), 17), 0, "", api.ErrLimit},
		// Too many stops matter though the other direction leaves at once.
		{many(17), [2][]int{{0}, {1, 2, 3}}, points("0 0 1", "1 0 0"), 1, "", api.ErrLimit}, {many(16), [2][]int{{0}, {1, 2, 3}}, points("0 0 1", "1 0 0"), 1, "0 along 0 0 1", api.OK},
	} {
		l, e := Find(c.a, c.sets, c.directions, c.most)
		if show(l) != c.want || e != c.e {
			t.Errorf("%d: Find = %s, %d", i, show(l), e)
		}
	}
}

// P27.4
func TestPlan(t *testing.T) {
	up := append(axes4(), points("0 0 1", "0 0 -1")...)
	p, e := Plan(gap(), up, 2)
	if e != api.OK || p.Kind.Blocking != api.Far || !slices.Equal(p.Kind.Directions, up) || p.Most != 1 {
		t.Errorf("Plan = %v, %d", p, e)
	}
	if want := "0 along 1 0 0 by 2; 0 along 0 1 0"; show(p.Steps[:2]) != want {
		t.Errorf("Plan = %s", show(p.Steps))
	}
	if is, e := plan.Complete(p, 3); !is || e != api.OK {
		t.Errorf("Complete = %t, %d", is, e)
	}
	if n, e := Verify(gap(), p); n != len(p.Steps) || e != api.OK {
		t.Errorf("Verify = %d, %d", n, e)
	}
	if p, e := Plan(build(cube(0, 0, 0)), up, 1); len(p.Steps) != 0 || p.Most != 1 || e != api.OK {
		t.Errorf("Plan = %v, %d", p, e)
	}
	rings := build([]api.Cell{box(0, 0, 0, 1, 5, 1), box(6, 0, 0, 7, 5, 1), box(1, 0, 0, 6, 1, 1), box(1, 4, 0, 6, 5, 1)}, []api.Cell{box(4, 2, -2, 5, 3, 3), box(10, 2, -2, 11, 3, 3), box(5, 2, -2, 10, 3, -1), box(5, 2, 2, 10, 3, 3)})
	thick := build(cube(0, 0, 0), cube(0, 0, 0))
	for i, c := range []struct {
		a          api.Assembly
		directions []api.Point
		most       int
		e          api.Errno
	}{
		{thick, nil, 0, api.ErrPenetrate}, {api.Assembly{}, nil, 0, api.ErrEmpty}, {api.Assembly{}, points("0 0 0"), 0, api.ErrZero}, {api.Assembly{}, up, 0, api.ErrRange}, {api.Assembly{}, up, 1, api.ErrEmpty}, {rings, up, 2, api.ErrStuck}, {many(17), points("1 0 0"), 1, api.ErrLimit}, {gap(), points("0 1 0"), 3, api.ErrStuck},
	} {
		if p, e := Plan(c.a, c.directions, c.most); !plan.Equal(p, api.Plan{}) || e != c.e {
			t.Errorf("%d: Plan = %v, %d, not %d", i, p, e, c.e)
		}
	}
}

// P27.5
func TestVerify(t *testing.T) {
	good := api.Plan{Kind: api.Kind{Blocking: api.Far}, Steps: []api.Step{{Moved: []int{0}, Direction: point("1 0 0"), Distance: "2"}, {Moved: []int{0}, Direction: point("0 1 0")}, {Moved: []int{1}, Direction: point("0 0 1")}}}
	with := func(f func(*api.Plan)) api.Plan {
		p, _ := plan.Rename(good, []int{0, 1, 2})
		f(&p)
		return p
	}
	thick := build(cube(0, 0, 0), cube(0, 0, 0))
	for i, c := range []struct {
		a    api.Assembly
		p    api.Plan
		step int
		e    api.Errno
	}{
		{gap(), with(func(p *api.Plan) { p.Steps = p.Steps[:2] }), 2, api.OK}, {gap(), with(func(p *api.Plan) { p.Steps = nil }), 0, api.OK},
		{thick, api.Plan{}, 0, api.ErrPenetrate}, {gap(), api.Plan{}, 0, api.ErrKind}, {gap(), with(func(p *api.Plan) { p.Steps[0].Distance = "0" }), 0, api.ErrRange}, {api.Assembly{}, good, 0, api.ErrRange}, {gap(), api.Plan{Kind: api.Kind{Blocking: api.Local}}, 0, api.ErrKind}, {gap(), api.Plan{Kind: good.Kind, Splits: []api.Split{{Whole: []int{0, 1, 2}, Moved: []int{1}, Direction: point("1 0 0")}}}, 0, api.ErrKind},
		{gap(), with(func(p *api.Plan) { p.Steps[0].Distance = "5/2" }), 0, api.ErrBlocked}, {gap(), with(func(p *api.Plan) { p.Steps[0].Distance = "3/2" }), 1, api.ErrBlocked}, {gap(), with(func(p *api.Plan) { p.Steps = p.Steps[1:] }), 0, api.ErrBlocked}, {gap(), good, 2, api.ErrBlocked},
		// What has been moved by a distance stands in the way where it is then.
		{build(cube(0, 0, 0), cube(5, 0, 0), cube(0, 3, 0)), api.Plan{Kind: good.Kind, Steps: []api.Step{{Moved: []int{0}, Direction: point("1 0 0"), Distance: "2"}, {Moved: []int{1}, Direction: point("-1 0 0"), Distance: "2"}, {Moved: []int{1}, Direction: point("-1 0 0"), Distance: "1/2"}}}, 2, api.ErrBlocked},
		// Several instances move as one body, past one another.
		{build(cube(0, 0, 0), cube(1, 0, 0), cube(5, 5, 5)), api.Plan{Kind: good.Kind, Steps: []api.Step{{Moved: []int{0, 1}, Direction: point("1 0 0"), Distance: "7"}, {Moved: []int{0}, Direction: point("1 0 0"), Distance: "1"}}}, 1, api.ErrBlocked},
		// What has gone is in nobody's way.
		{build(cube(0, 0, 0), cube(1, 0, 0), cube(5, 5, 5)), api.Plan{Kind: good.Kind, Steps: []api.Step{{Moved: []int{1}, Direction: point("1 0 0")}, {Moved: []int{0}, Direction: point("1 0 0")}}}, 2, api.OK},
	} {
		if step, e := Verify(c.a, c.p); step != c.step || e != c.e {
			t.Errorf("%d: Verify = %d, %d, not %d, %d", i, step, e, c.step, c.e)
		}
	}
}

// P27.6
func TestConsequences(t *testing.T) {
	r := rand.New(rand.NewSource(2))
	directions := append(axes4(), points("1 1 0")...)
	lengths := map[int]int{}
	for range 60 {
		parts := [][]api.Cell{cube(2, 2, 0)}
		for _, at := range r.Perm(25)[:9+r.Intn(3)] {
			if x, y := at%5, at/5; at != 12 {
				parts = append(parts, []api.Cell{box(x, y, -1+r.Intn(2), x+1, y+1, 2)})
			}
		}
		a := build(parts...)
		var rest []int
		for i := range parts[1:] {
			rest = append(rest, i+1)
		}
		sets := [2][]int{{0}, rest}
		l, e := Find(a, sets, directions, 3)
		if e != api.OK && e != api.ErrBlocked {
			t.Fatalf("Find: %d", e)
		}
		lengths[len(l)]++
		if e == api.OK {
			p := api.Plan{Kind: api.Kind{Blocking: api.Far, Directions: directions}, Steps: l}
			if n, e := Verify(a, p); n != len(l) || e != api.OK {
				t.Fatalf("%s is not possible: %d", show(l), e)
			}
		}
		checkFirst(t, a, sets, directions, l)
		if less, e := Find(a, sets, directions[:4], 3); e == api.OK && (len(l) == 0 || len(l) > len(less)) {
			t.Fatalf("with fewer directions there are %d steps, not %d", len(less), len(l))
		}
	}
	if len(lengths) < 3 {
		t.Errorf("the lengths are %v", lengths)
	}
}

// checkFirst searches all paths with at most two translations by Stops, and compares the first one.
func checkFirst(t *testing.T, a api.Assembly, sets [2][]int, directions []api.Point, l []api.Step) {
	t.Helper()
	var best []api.Step
	for _, d := range directions {
		if _, leaves, _ := Stops(a, sets, point("0 0 0"), d); leaves {
			best = []api.Step{{Moved: sets[0], Direction: d}}
			break
		}
	}
	solids, _ := assembly.Place(a)
	far, _ := vector.Read(directions[0])
	if is, _ := sweep.Far(solids[0], solids[1], far); is && len(best) == 1 && best[0].Direction == directions[0] {
		t.Fatalf("%s, but the way is blocked", show(best))
	}
	for _, d := range directions {
		stops, _, _ := Stops(a, sets, point("0 0 0"), d)
		v, _ := vector.Read(d)
		for _, s := range stops {
			k, _ := rational.Read(s)
			for _, next := range directions {
				_, leaves, e := Stops(a, sets, vector.Scale(v, k).Point(), next)
				if leaves && best == nil {
					best = []api.Step{{Moved: sets[0], Direction: d, Distance: s}, {Moved: sets[0], Direction: next}}
				}
				if e != api.OK {
					t.Fatalf("Stops at %s: %d", s, e)
				}
			}
		}
	}
	if len(best) > 0 && show(l) != show(best) || best == nil && len(l) != 0 && len(l) != 3 {
		t.Fatalf("the first path is %s, not %s", show(l), show(best))
	}
}

func TestMemory(t *testing.T) {
	sets := [2][]int{{0}, {1, 2}}
	l, _ := Find(gap(), sets, axes4(), 2)
	l[0].Moved[0] = 9
	if l[1].Moved[0] != 0 || sets[0][0] != 0 {
		t.Error("the steps share memory")
	}
	d := axes4()
	p, _ := Plan(build(cube(0, 0, 0)), d, 1)
	p.Kind.Directions[0] = api.Point{}
	if d[0] != point("1 0 0") {
		t.Error("Plan has changed its argument")
	}
}
