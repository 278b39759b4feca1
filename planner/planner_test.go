package planner

import (
	"fmt"
	"math/rand"
	"slices"
	"strings"
	"testing"

	"dowel/api"
	"dowel/assembly"
	"dowel/blocking"
	"dowel/direction"
	"dowel/plan"
)

func box(x, y, z, a, b, c int) api.Cell {
	return api.Cell{Vertices: []api.Vector{{x, y, z}, {x, y, c}, {x, b, z}, {x, b, c}, {a, y, z}, {a, y, c}, {a, b, z}, {a, b, c}}}
}

// build returns an assembly whose instances stay where the cells of their parts are.
func build(parts ...[]api.Cell) api.Assembly {
	var a api.Assembly
	for i, cells := range parts {
		name := string(rune('a' + i))
		a.Parts = append(a.Parts, api.Part{Name: name, Density: 1, Cells: cells})
		a.Instances = append(a.Instances, api.Instance{Name: name, Part: name, Place: api.Placement{Turn: [4]int{1, 0, 0, 0}, Shift: api.Point{"0", "0", "0"}}})
	}
	return a
}

func cube(x, y, z int) []api.Cell { return []api.Cell{box(x, y, z, x+1, y+1, z+1)} }

func point(text string) api.Point {
	var p api.Point
	for i, word := range strings.Fields(text) {
		p[i] = api.Number(word)
	}
	return p
}

func kind(blocking int, directions ...string) api.Kind {
	k := api.Kind{Blocking: blocking}
	for _, d := range directions {
		k.Directions = append(k.Directions, point(d))
	}
	return k
}

func axes(blocking int) api.Kind {
	return kind(blocking, "1 0 0", "-1 0 0", "0 1 0", "0 -1 0", "0 0 1", "0 0 -1")
}

func upDown() api.Kind { return kind(api.Far, "0 0 1", "0 0 -1") }

// tower is three cubes, one on the other.
func tower() api.Assembly { return build(cube(0, 0, 0), cube(0, 0, 1), cube(0, 0, 2)) }

// nest is a box (0), a cube in it (1), and a lid (2).
func nest() api.Assembly {
	return build([]api.Cell{box(0, 0, 0, 3, 3, 1), box(0, 0, 1, 1, 3, 2), box(2, 0, 1, 3, 3, 2), box(1, 0, 1, 2, 1, 2), box(1, 2, 1, 2, 3, 2)}, []api.Cell{box(1, 1, 1, 2, 2, 2)}, []api.Cell{box(0, 0, 2, 3, 3, 3)})
}

// rings is two frames, each of which goes through the other one.
func rings() api.Assembly {
	return build([]api.Cell{box(0, 0, 0, 1, 5, 1), box(6, 0, 0, 7, 5, 1), box(1, 0, 0, 6, 1, 1), box(1, 4, 0, 6, 5, 1)}, []api.Cell{box(4, 2, -2, 5, 3, 3), box(10, 2, -2, 11, 3, 3), box(5, 2, -2, 10, 3, -1), box(5, 2, 2, 10, 3, 3)})
}

// hooked is two pairs of rings, one above the other: as wholes they can be divided.
func hooked() api.Assembly {
	a, b := rings(), rings()
	for i, x := range b.Instances {
		x.Name = string(rune('c' + i))
		x.Place.Shift[2] = "20"
		a.Instances = append(a.Instances, x)
	}
	return a
}

func all(n int) []int { return full(n).list() }

func show(l []Move) string {
	var words []string
	for _, m := range l {
		words = append(words, fmt.Sprint(m.Moved, m.Direction))
	}
	return strings.Join(words, " ")
}

func random(r *rand.Rand) api.Assembly {
	for {
		var parts [][]api.Cell
		for range 2 + r.Intn(4) {
			x, y, z := r.Intn(3), r.Intn(2), r.Intn(3)
			l := []api.Cell{box(x, y, z, x+1, y+1+r.Intn(2), z+1)}
			if r.Intn(3) == 0 {
				l = append(l, box(x+1, y, z, x+2, y+1, z+1), box(x+1, y, z+1, x+2, y+1, z+2))
			}
			parts = append(parts, l)
		}
		a := build(parts...)
		if _, _, e := assembly.Sound(a); e == api.OK {
			return a
		}
	}
}

// P26.1
func TestMovesAndFirst(t *testing.T) {
	l, e := Moves(tower(), all(3), upDown(), 1)
	if want := "[0] [0 0 -1] [2] [0 0 1]"; show(l) != want || e != api.OK {
		t.Errorf("Moves = %s, %d", show(l), e)
	}
	l, e = Moves(tower(), all(3), upDown(), 0)
	if want := "[0] [0 0 -1] [2] [0 0 1] [0 1] [0 0 -1] [1 2] [0 0 1]"; show(l) != want || e != api.OK {
		t.Errorf("Moves = %s, %d", show(l), e)
	}
	l, e = Moves(tower(), []int{0, 2}, kind(api.Local, "0 0 1", "0 0 -1"), 5)
	if want := "[0] [0 0 1] [0] [0 0 -1] [2] [0 0 1] [2] [0 0 -1]"; show(l) != want || e != api.OK {
		t.Errorf("Moves = %s, %d", show(l), e)
	}
	// Along all directions: those of the cells of the plane of blocking.
	l, e = Moves(tower(), []int{0, 1}, kind(api.Local), 0)
	if want := "[0] [0 0 -1] [0] [1 0 0] [1] [1 0 0] [1] [0 0 1]"; show(l) != want || e != api.OK {
		t.Errorf("Moves = %s, %d", show(l), e)
	}
	if l, e := Moves(tower(), []int{1}, kind(api.Far), 0); len(l) != 0 || e != api.OK {
		t.Errorf("Moves = %s, %d", show(l), e)
	}
	m, e := First(tower(), []int{1, 2}, upDown(), 0)
	if fmt.Sprint(m) != "{[1] [0 0 -1]}" || e != api.OK {
		t.Errorf("First = %v, %d", m, e)
	}
	for i, c := range []struct {
		a    api.Assembly
		set  []int
		kind api.Kind
		e    api.Errno
	}{{tower(), []int{1}, upDown(), api.ErrStuck}, {rings(), []int{0, 1}, axes(api.Far), api.ErrStuck}, {tower(), nil, upDown(), api.ErrEmpty}, {tower(), []int{3}, upDown(), api.ErrRange}, {tower(), []int{1, 0}, upDown(), api.ErrOrder}} {
		if m, e := First(c.a, c.set, c.kind, 0); m.Moved != nil || m.Direction != (api.Point{}) || e != c.e {
			t.Errorf("%d: First = %v, %d", i, m, e)
		}
		if c.e == api.ErrStuck {
			continue
		}
		if l, e := Moves(c.a, c.set, c.kind, 0); l != nil || e != c.e {
			t.Errorf("%d: Moves: %d", i, e)
		}
	}
}

// wide is cubes that have too many planes of Far between them.
func wide() api.Assembly {
	return build(cube(0, 0, 0), cube(3, 1, 0), cube(-2, 5, 4), cube(7, -3, 9))
}

func TestErrors(t *testing.T) {
	bad := tower()
	bad.Instances[0].Part = "none"
	thick := tower()
	thick.Instances[1].Place.Shift[2] = "1/2"
	seven := build(cube(0, 0, 0), cube(2, 0, 0), cube(4, 0, 0), cube(6, 0, 0), cube(8, 0, 0), cube(10, 0, 0), cube(12, 0, 0))
	for i, c := range []struct {
		a     api.Assembly
		kind  api.Kind
		most  int
		e     api.Errno
		small api.Errno // of the functions for few instances
	}{
		{bad, kind(0), -1, api.ErrUnknown, api.ErrUnknown}, {thick, kind(0), -1, api.ErrPenetrate, api.ErrPenetrate}, {api.Assembly{}, kind(0), -1, api.ErrEmpty, api.ErrEmpty}, {tower(), kind(0), -1, api.ErrKind, api.ErrKind}, {tower(), kind(api.Far, "2 0 0"), -1, api.ErrForm, api.ErrForm}, {tower(), kind(api.Far), -1, api.ErrRange, api.ErrRange}, {tower(), kind(api.Far), 13, api.ErrRange, api.ErrRange}, {wide(), kind(api.Far), 0, api.ErrLimit, api.ErrLimit}, {seven, kind(api.Far, "1 0 0"), 0, api.OK, api.ErrLimit},
	} {
		set := all(len(c.a.Instances))
		hasMost := c.e != api.ErrRange
		m, e1 := Moves(c.a, set, c.kind, c.most)
		_, e2 := First(c.a, set, c.kind, c.most)
		p, e3 := Sequential(c.a, c.kind, c.most)
		q, e4 := Least(c.a, c.kind, c.most)
		for k, e := range []api.Errno{e1, e2, e3} {
			if e != c.e {
				t.Errorf("%d, %d: %d, not %d", i, k, e, c.e)
			}
		}
		if e4 != c.small || c.e != api.OK && (m != nil || !plan.Equal(p, api.Plan{})) || !plan.Equal(q, api.Plan{}) {
			t.Errorf("%d: %d", i, e4)
		}
		if !hasMost {
			continue
		}
		d, e5 := TwoHanded(c.a, c.kind)
		s, e6 := Stuck(c.a, c.kind)
		f, e7 := Flat(c.a, c.kind)
		n, e8 := Orders(c.a, c.kind)
		if e5 != c.e || e6 != c.e || e7 != c.small || e8 != c.small {
			t.Errorf("%d: %d, %d, %d, %d", i, e5, e6, e7, e8)
		}
		if c.e != api.OK && (!plan.Equal(d, api.Plan{}) || s != nil) || !plan.Equal(f, api.Plan{}) || n != 0 {
			t.Errorf("%d: the results are not zero", i)
		}
	}
	if l, e := Moves(wide(), nil, kind(api.Far), 0); l != nil || e != api.ErrEmpty {
		t.Errorf("Moves: %d", e)
	}
}

func textOf(t *testing.T, p api.Plan, n int) string {
	t.Helper()
	s, e := plan.Text(p, n)
	if e != api.OK {
		t.Fatalf("Text: %d", e)
	}
	return strings.TrimSuffix(s, "\n")
}

// P26.2
func TestSequentialAndTwoHanded(t *testing.T) {
	for i, c := range []struct {
		a    api.Assembly
		kind api.Kind
		most int
		want string
		e    api.Errno
	}{
		{tower(), upDown(), 1, "plan far most 1\nkind 0 0 1\nkind 0 0 -1\nmove 2 along 0 0 1\nmove 1 along 0 0 1", api.OK}, {tower(), kind(api.Far, "0 0 -1"), 1, "plan far most 1\nkind 0 0 -1\nmove 0 along 0 0 -1\nmove 1 along 0 0 -1", api.OK}, {nest(), kind(api.Far), 0, "plan far most 0\nmove 2 along -1 -1 0\nmove 1 along 0 0 1", api.OK}, {rings(), axes(api.Far), 0, "", api.ErrStuck}, {hooked(), axes(api.Far), 0, "", api.ErrStuck}, {build(cube(0, 0, 0)), kind(api.Local), 3, "plan local most 3", api.OK},
	} {
		p, e := Sequential(c.a, c.kind, c.most)
		if e != c.e || e == api.OK && textOf(t, p, len(c.a.Instances)) != c.want || e != api.OK && !plan.Equal(p, api.Plan{}) {
			t.Errorf("%d: Sequential = %v, %d", i, p, e)
		}
	}
	for i, c := range []struct {
		a    api.Assembly
		kind api.Kind
		want string
		e    api.Errno
	}{
		{tower(), upDown(), "plan far most 0\nkind 0 0 1\nkind 0 0 -1\nsplit 0,1,2 moving 0 along 0 0 -1\nsplit 1,2 moving 1 along 0 0 -1", api.OK}, {rings(), axes(api.Far), "", api.ErrStuck}, {hooked(), axes(api.Far), "", api.ErrStuck}, {build(cube(0, 0, 0)), kind(api.Local), "plan local most 0", api.OK},
	} {
		p, e := TwoHanded(c.a, c.kind)
		if e != c.e || e == api.OK && textOf(t, p, len(c.a.Instances)) != c.want || e != api.OK && !plan.Equal(p, api.Plan{}) {
			t.Errorf("%d: TwoHanded = %v, %d", i, p, e)
		}
	}
}

// P26.3
func TestStuck(t *testing.T) {
	for i, c := range []struct {
		a    api.Assembly
		kind api.Kind
		want []int
	}{{tower(), upDown(), []int{2}}, {rings(), axes(api.Far), []int{0, 1}}, {hooked(), axes(api.Far), []int{0, 1, 2, 3}}, {nest(), axes(api.Far), []int{2}}, {nest(), kind(api.Far, "1 0 0"), []int{0, 1}}, {build(cube(0, 0, 0)), kind(api.Far), []int{0}}} {
		if l, e := Stuck(c.a, c.kind); !slices.Equal(l, c.want) || e != api.OK {
			t.Errorf("%d: Stuck = %d, %d", i, l, e)
		}
	}
}

// P26.4, P26.5
func TestLeastFlatOrders(t *testing.T) {
	p, e := Least(tower(), upDown(), 0)
	if want := "plan far most 0\nkind 0 0 1\nkind 0 0 -1\nmove 0,1 along 0 0 -1"; textOf(t, p, 3) != want || e != api.OK {
		t.Errorf("Least = %v, %d", p, e)
	}
	p, e = Least(tower(), upDown(), 1)
	if want := "plan far most 1\nkind 0 0 1\nkind 0 0 -1\nmove 0 along 0 0 -1\nmove 1 along 0 0 -1"; textOf(t, p, 3) != want || e != api.OK {
		t.Errorf("Least = %v, %d", p, e)
	}
	four := build(cube(0, 0, 0), cube(0, 0, 1), cube(0, 0, 2), cube(0, 0, 3))
	p, e = Flat(four, kind(api.Far, "0 0 1"))
	if want := "plan far most 0\nkind 0 0 1\nsplit 0,1,2,3 moving 2,3 along 0 0 1\nsplit 2,3 moving 3 along 0 0 1\nsplit 0,1 moving 1 along 0 0 1"; textOf(t, p, 4) != want || e != api.OK {
		t.Errorf("Flat = %v, %d", p, e)
	}
	if n, e := Orders(tower(), upDown()); n != 4 || e != api.OK {
		t.Errorf("Orders = %d, %d", n, e)
	}
	if n, e := Orders(rings(), axes(api.Far)); n != 0 || e != api.OK {
		t.Errorf("Orders = %d, %d", n, e)
	}
	if n, e := Orders(build(cube(0, 0, 0)), axes(api.Far)); n != 1 || e != api.OK {
		t.Errorf("Orders = %d, %d", n, e)
	}
	if p, e := Least(rings(), axes(api.Far), 0); !plan.Equal(p, api.Plan{}) || e != api.ErrStuck {
		t.Errorf("Least: %d", e)
	}
	if p, e := Flat(hooked(), axes(api.Far)); !plan.Equal(p, api.Plan{}) || e != api.ErrStuck {
		t.Errorf("Flat: %d", e)
	}
}

// P26.6
func TestVerify(t *testing.T) {
	good, _ := Sequential(tower(), upDown(), 1)
	hands, _ := TwoHanded(tower(), upDown())
	change := func(p api.Plan, f func(*api.Plan)) api.Plan {
		q, _ := plan.Rename(p, []int{0, 1, 2})
		f(&q)
		return q
	}
	bad := tower()
	bad.Instances[1].Place.Shift[2] = "1/2"
	for i, c := range []struct {
		a api.Assembly
		p api.Plan
		e api.Errno
	}{
		{tower(), good, api.OK}, {tower(), hands, api.OK}, {tower(), change(good, func(p *api.Plan) { p.Steps = p.Steps[:1] }), api.OK}, {tower(), change(good, func(p *api.Plan) { p.Steps = nil }), api.OK},
		{bad, api.Plan{}, api.ErrPenetrate}, {tower(), api.Plan{}, api.ErrKind}, {api.Assembly{}, good, api.ErrRange}, {tower(), change(good, func(p *api.Plan) { p.Steps[0].Moved[0] = 3 }), api.ErrRange}, {tower(), change(good, func(p *api.Plan) { p.Steps[1].Distance, p.Steps[0].Moved[0] = "5", 1; p.Steps[1].Moved[0] = 2 }), api.ErrKind}, {tower(), change(good, func(p *api.Plan) { p.Steps[0].Direction = point("0 0 -1") }), api.ErrBlocked}, {tower(), change(good, func(p *api.Plan) { p.Steps[0], p.Steps[1] = p.Steps[1], p.Steps[0] }), api.ErrBlocked}, {tower(), change(hands, func(p *api.Plan) { p.Splits[1].Direction = point("0 0 1") }), api.ErrBlocked},
		// Local is less than Far: a cube that is farther away does not block at once.
		{build(cube(0, 0, 0), cube(0, 0, 5)), api.Plan{Kind: kind(api.Local), Steps: []api.Step{{Moved: []int{0}, Direction: point("0 0 1")}}}, api.OK}, {build(cube(0, 0, 0), cube(0, 0, 5)), api.Plan{Kind: kind(api.Far), Steps: []api.Step{{Moved: []int{0}, Direction: point("0 0 1")}}}, api.ErrBlocked},
	} {
		if e := Verify(c.a, c.p); e != c.e {
			t.Errorf("%d: Verify: %d, not %d", i, e, c.e)
		}
	}
}

// movesByDefinition returns all moves by asking about each set and each direction.
func movesByDefinition(t *testing.T, a api.Assembly, r set, k api.Kind, most int) []move {
	t.Helper()
	s, e := blocking.Open(a)
	if e != api.OK {
		t.Fatal(e)
	}
	directions := k.Directions
	if len(directions) == 0 {
		planes, e := s.Planes(r.list(), k.Blocking)
		if e != api.OK {
			t.Fatal(e)
		}
		cells, _ := direction.Cells(planes)
		for _, c := range cells {
			directions = append(directions, c.Direction)
		}
	}
	var sets []set
	for m := set(1); m < r; m++ {
		if m&^r == 0 && (most == 0 || m.size() <= most) {
			sets = append(sets, m)
		}
	}
	slices.SortFunc(sets, func(a, b set) int {
		if a.size() != b.size() {
			return a.size() - b.size()
		}
		return slices.Compare(a.list(), b.list())
	})
	var l []move
	for _, m := range sets {
		for _, d := range directions {
			if is, e := s.Movable(r.list(), m.list(), d, k.Blocking); e != api.OK {
				t.Fatal(e)
			} else if is {
				l = append(l, move{m, d})
			}
		}
	}
	return l
}

// P26.1 to P26.7, compared with a search through everything.
func TestAgainstDefinitions(t *testing.T) {
	r := rand.New(rand.NewSource(1))
	stuck := 0
	for i := range 40 {
		a := random(r)
		if i%8 == 5 {
			a = []api.Assembly{rings(), hooked()}[i/8%2]
		}
		n := len(a.Instances)
		k := []api.Kind{axes(api.Far), upDown(), kind(api.Local, "1 0 0", "0 1 1"), kind(api.Local)}[i%4]
		most := r.Intn(3)
		var want []Move
		byHand := movesByDefinition(t, a, full(n), k, most)
		for _, m := range byHand {
			want = append(want, Move{m.moved.list(), m.direction})
		}
		if l, e := Moves(a, all(n), k, most); show(l) != show(want) || e != api.OK {
			t.Fatalf("Moves = %s, %d, not %s", show(l), e, show(want))
		}
		if m, e := First(a, all(n), k, most); (e == api.OK) != (len(want) > 0) || e == api.OK && show([]Move{m}) != show(want[:1]) {
			t.Fatalf("First = %v, %d", m, e)
		}
		if checkPlans(t, a, k, most) {
			stuck++
		}
	}
	if stuck < 3 || stuck > 30 {
		t.Errorf("%d of 40 are stuck", stuck)
	}
}

// checkPlans compares the plans of an assembly with those that a search through all moves finds, and reports whether there is none.
func checkPlans(t *testing.T, a api.Assembly, k api.Kind, most int) bool {
	t.Helper()
	n := len(a.Instances)
	memo := map[[2]set][]move{}
	moves := func(r set, most int) []move {
		key := [2]set{r, set(most)}
		if _, ok := memo[key]; !ok {
			memo[key] = movesByDefinition(t, a, r, k, most)
		}
		return memo[key]
	}
	p, e := Least(a, k, most)
	steps := fewest(full(n), func(r set) []move { return moves(r, most) })
	if (e == api.OK) != (steps != nil || n == 1) || e == api.OK && fmt.Sprint(p.Steps) != fmt.Sprint(steps) {
		t.Fatalf("Least = %v, %d, not %v", p.Steps, e, steps)
	}
	s, f := Sequential(a, k, most)
	if (e == api.OK) != (f == api.OK) {
		t.Fatalf("Least: %d, but Sequential: %d", e, f)
	}
	for _, x := range []api.Plan{p, s} {
		if is, _ := plan.Complete(x, n); e == api.OK && (!is || Verify(a, x) != api.OK) {
			t.Fatalf("%v is no plan: %d", x, Verify(a, x))
		}
	}
	d, e1 := TwoHanded(a, k)
	x, e2 := Flat(a, k)
	flat := flattest(full(n), func(r set) []move { return moves(r, 0) })
	if e1 != e2 || (e2 == api.OK) != (flat != nil || n == 1) || e2 == api.OK && fmt.Sprint(x.Splits) != fmt.Sprint(flat) {
		t.Fatalf("Flat = %v, %d, %d, not %v", x.Splits, e2, e1, flat)
	}
	if is, _ := plan.Complete(d, n); e1 == api.OK && (!is || Verify(a, d) != api.OK || Verify(a, x) != api.OK) {
		t.Fatalf("%v is no plan", d)
	}
	orders, _ := Orders(a, k)
	rest, _ := Stuck(a, k)
	single := func(r set) []move { return moves(r, 1) }
	if orders != countOrders(full(n), single) || (orders > 0) != (len(rest) == 1) || len(rest) > 1 && len(single(of(rest))) > 0 {
		t.Fatalf("Orders = %d, not %d; Stuck = %d", orders, countOrders(full(n), single), rest)
	}
	return e != api.OK
}

// fewest returns the first list of moves that leave one instance with as few moves as possible.
func fewest(r set, moves func(set) []move) []api.Step {
	for length := range 6 {
		if l, ok := within(r, length, moves); ok {
			return l
		}
	}
	return nil
}

func within(r set, length int, moves func(set) []move) ([]api.Step, bool) {
	if r.size() == 1 {
		return nil, true
	}
	if length == 0 {
		return nil, false
	}
	for _, m := range moves(r) {
		if l, ok := within(r&^m.moved, length-1, moves); ok {
			return append([]api.Step{stepOf(m)}, l...), true
		}
	}
	return nil, false
}

// flattest returns the first list of splits with the least height.
func flattest(r set, moves func(set) []move) []api.Split {
	for height := range 6 {
		if l, ok := flat(r, height, moves); ok {
			return l
		}
	}
	return nil
}

func flat(r set, height int, moves func(set) []move) ([]api.Split, bool) {
	if r.size() == 1 {
		return nil, true
	}
	if height == 0 {
		return nil, false
	}
	for _, m := range moves(r) {
		a, isA := flat(m.moved, height-1, moves)
		b, isB := flat(r&^m.moved, height-1, moves)
		if isA && isB {
			return slices.Concat([]api.Split{{Whole: r.list(), Moved: m.moved.list(), Direction: m.direction}}, a, b), true
		}
	}
	return nil, false
}

func countOrders(r set, moves func(set) []move) int {
	if r.size() == 1 {
		return 1
	}
	sum := 0
	seen := map[set]bool{}
	for _, m := range moves(r) {
		if !seen[m.moved] {
			seen[m.moved] = true
			sum += countOrders(r&^m.moved, moves)
		}
	}
	return sum
}

// P26.7
func TestMoreDirections(t *testing.T) {
	r := rand.New(rand.NewSource(2))
	for range 30 {
		a := random(r)
		_, e := Sequential(a, upDown(), 1)
		if e != api.OK {
			continue
		}
		far, e1 := Sequential(a, axes(api.Far), 1)
		_, e2 := Sequential(a, upDown(), 2)
		local := far
		local.Kind.Blocking = api.Local
		if e1 != api.OK || e2 != api.OK || Verify(a, local) != api.OK {
			t.Fatalf("%d, %d, %d", e1, e2, Verify(a, local))
		}
	}
}

func TestMemory(t *testing.T) {
	k := upDown()
	p, _ := Sequential(tower(), k, 1)
	p.Kind.Directions[0] = api.Point{}
	if k.Directions[0] != point("0 0 1") {
		t.Error("Sequential has changed its argument")
	}
}

func BenchmarkSequentialAllDirections(b *testing.B) {
	a := build(cube(0, 0, 0), cube(0, 0, 1), cube(0, 1, 0), cube(1, 0, 0), cube(1, 1, 0), cube(0, 1, 1), cube(1, 0, 1), cube(1, 1, 1))
	for b.Loop() {
		Sequential(a, kind(api.Local), 1)
	}
}

func BenchmarkStuckAllDirections(b *testing.B) {
	for b.Loop() {
		TwoHanded(hooked(), kind(api.Local))
	}
}
