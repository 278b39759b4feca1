package blocking

import (
	"math/rand"
	"slices"
	"strings"
	"testing"

	"dowel/api"
	"dowel/assembly"
	"dowel/graph"
	"dowel/interval"
	"dowel/rational"
	"dowel/solid"
	"dowel/sweep"
	"dowel/vector"
)

func box(x, y, z, a, b, c int) api.Cell {
	return api.Cell{Vertices: []api.Vector{{x, y, z}, {x, y, c}, {x, b, z}, {x, b, c}, {a, y, z}, {a, y, c}, {a, b, z}, {a, b, c}}}
}

// build returns an assembly whose instances stay where the cells of their parts are.
func build(parts ...[]api.Cell) api.Assembly {
	var a api.Assembly
	for i, cells := range parts {
		name := string(rune('a' + i))
		a.Parts = append(a.Parts, api.Part{Name: name, Density: 1, Cells: cells})
		a.Instances = append(a.Instances, api.Instance{Name: name, Part: name, Place: api.Placement{Turn: [4]int{1, 0, 0, 0}, Shift: api.Point{"0", "0", "0"}}})
	}
	return a
}

func cube(x, y, z int) []api.Cell { return []api.Cell{box(x, y, z, x+1, y+1, z+1)} }

func open(t *testing.T, a api.Assembly) *Scene {
	t.Helper()
	s, e := Open(a)
	if e != api.OK {
		t.Fatalf("Open: %d", e)
	}
	return s
}

// row is three unit cubes side by side along x.
func row(t *testing.T) *Scene { return open(t, build(cube(0, 0, 0), cube(1, 0, 0), cube(2, 0, 0))) }

func point(text string) api.Point {
	var p api.Point
	for i, word := range strings.Fields(text) {
		p[i] = api.Number(word)
	}
	return p
}

// random returns a scene of some boxes of two cells at different places, and its assembly.
func random(t *testing.T, r *rand.Rand) (*Scene, api.Assembly) {
	t.Helper()
	for {
		var parts [][]api.Cell
		for range 4 {
			x, y, z := r.Intn(4), r.Intn(3), r.Intn(3)
			l := []api.Cell{box(x, y, z, x+1, y+1, z+1)}
			if r.Intn(2) == 0 {
				l = append(l, api.Cell{Vertices: []api.Vector{{x, y, z + 1}, {x, y, z + 2}, {x, y + 1, z + 1}, {x + 1, y, z + 1}}})
			}
			parts = append(parts, l)
		}
		a := build(parts...)
		if s, e := Open(a); e == api.OK {
			return s, a
		}
	}
}

// P21.1
func TestOpenLenSolid(t *testing.T) {
	a := build(cube(0, 0, 0), cube(1, 0, 0))
	s := open(t, a)
	if s.Len() != 2 {
		t.Errorf("Len = %d", s.Len())
	}
	solids, _ := assembly.Place(a)
	for i := range 2 {
		x, e := s.Solid(i)
		if !solid.Equal(x, solids[i]) || e != api.OK {
			t.Errorf("Solid(%d): %d", i, e)
		}
		x.Cells[0].Vertices[0][0] = rational.From(77)
		x.Cells[0].Faces[0].Vertices[0] = 7
		if y, _ := s.Solid(i); !solid.Equal(y, solids[i]) {
			t.Error("Solid returns what the scene keeps")
		}
	}
	for _, i := range []int{-1, 2} {
		if x, e := s.Solid(i); x.Cells != nil || e != api.ErrRange {
			t.Errorf("Solid(%d): %d", i, e)
		}
	}
	if s, e := Open(build(cube(0, 0, 0), cube(0, 0, 0))); s != nil || e != api.ErrPenetrate {
		t.Errorf("Open: %d", e)
	}
	a.Instances[0].Name = "?"
	if s, e := Open(a); s != nil || e != api.ErrName {
		t.Errorf("Open: %d", e)
	}
	if s, e := Open(api.Assembly{}); s.Len() != 0 || e != api.OK {
		t.Errorf("Open: %d", e)
	}
}

// P21.2
func TestCheckSetAndDirection(t *testing.T) {
	s := row(t)
	for _, c := range []struct {
		set []int
		e   api.Errno
	}{{[]int{0}, api.OK}, {[]int{0, 2}, api.OK}, {nil, api.ErrEmpty}, {[]int{3}, api.ErrRange}, {[]int{-1, 0}, api.ErrRange}, {[]int{1, 0, 9}, api.ErrOrder}, {[]int{1, 9, 0}, api.ErrRange}, {[]int{1, 1}, api.ErrOrder}} {
		if e := s.CheckSet(c.set); e != c.e {
			t.Errorf("CheckSet(%d): %d, not %d", c.set, e, c.e)
		}
	}
	long := api.Number("1" + strings.Repeat("0", api.MaxNumber))
	for _, c := range []struct {
		d api.Point
		e api.Errno
	}{{point("1 0 0"), api.OK}, {point("2 -3 5"), api.OK}, {point("4 6 9"), api.OK}, {point("x 1/2 0"), api.ErrSyntax}, {point("1/2 x 0"), api.ErrSyntax}, {point("1/2 2/4 0"), api.ErrForm}, {point("0 0 1/2"), api.ErrForm}, {point("0 0 0"), api.ErrZero}, {point("2 0 -4"), api.ErrForm}, {point("0 0 -2"), api.ErrForm}, {api.Point{"0", "0", long}, api.ErrLong}, {api.Point{}, api.ErrSyntax}} {
		if e := CheckDirection(c.d); e != c.e {
			t.Errorf("CheckDirection(%.20s): %d, not %d", c.d, e, c.e)
		}
	}
}

// P21.3
func TestArcAndArcs(t *testing.T) {
	s := row(t)
	x, z := point("1 0 0"), point("0 0 1")
	local := []api.Arc{{From: 0, To: 1}, {From: 1, To: 2}}
	far := []api.Arc{{From: 0, To: 1, Time: "1"}, {From: 0, To: 2, Time: "2"}, {From: 1, To: 2, Time: "1"}}
	all := []int{0, 1, 2}
	for i, c := range []struct {
		set      []int
		d        api.Point
		blocking int
		want     []api.Arc
	}{{all, x, api.Local, local}, {all, x, api.Far, far}, {all, z, api.Far, nil}, {all, z, api.Local, nil}, {[]int{0, 2}, x, api.Far, far[1:2]}, {[]int{0, 2}, x, api.Local, nil}, {all, point("-1 0 0"), api.Local, []api.Arc{{From: 1, To: 0}, {From: 2, To: 1}}}, {[]int{1}, x, api.Far, nil}} {
		if arcs, e := s.Arcs(c.set, c.d, c.blocking); !slices.Equal(arcs, c.want) || e != api.OK {
			t.Errorf("%d: Arcs = %v, %d", i, arcs, e)
		}
	}
	if arc, ok, e := s.Arc(0, 2, x, api.Far); arc != far[1] || !ok || e != api.OK {
		t.Errorf("Arc = %v, %t, %d", arc, ok, e)
	}
	if arc, ok, e := s.Arc(0, 2, x, api.Local); arc != (api.Arc{}) || ok || e != api.OK {
		t.Errorf("Arc = %v, %t, %d", arc, ok, e)
	}
	for i, c := range []struct {
		from, to int
		d        api.Point
		blocking int
		e        api.Errno
	}{{3, 3, api.Point{}, 0, api.ErrRange}, {0, -1, api.Point{}, 0, api.ErrRange}, {1, 1, api.Point{}, 0, api.ErrConflict}, {0, 1, point("0 0 0"), 0, api.ErrZero}, {0, 1, x, 0, api.ErrKind}, {0, 1, x, 3, api.ErrKind}} {
		if arc, ok, e := s.Arc(c.from, c.to, c.d, c.blocking); arc != (api.Arc{}) || ok || e != c.e {
			t.Errorf("%d: Arc: %d, not %d", i, e, c.e)
		}
	}
	for i, c := range []struct {
		set      []int
		d        api.Point
		blocking int
		e        api.Errno
	}{{nil, api.Point{}, 0, api.ErrEmpty}, {[]int{1, 0}, api.Point{}, 0, api.ErrOrder}, {all, point("0 2 0"), 0, api.ErrForm}, {all, x, 0, api.ErrKind}} {
		if arcs, e := s.Arcs(c.set, c.d, c.blocking); arcs != nil || e != c.e {
			t.Errorf("%d: Arcs: %d, not %d", i, e, c.e)
		}
		if planes, e := s.Planes(c.set, c.blocking); c.e != api.ErrForm && (planes != nil || e != c.e) {
			t.Errorf("%d: Planes: %d, not %d", i, e, c.e)
		}
	}
}

// P21.3
func TestVerify(t *testing.T) {
	s := open(t, build(cube(0, 0, 0), []api.Cell{box(5, 5, 5, 6, 6, 6), box(1, 0, 0, 2, 1, 1)}))
	x := point("1 0 0")
	for i, c := range []struct {
		arc      api.Arc
		blocking int
		ok       bool
	}{
		{api.Arc{To: 1, CellTo: 1, Time: "1"}, api.Far, true}, {api.Arc{To: 1, CellTo: 1, Time: "1/9"}, api.Far, true}, {api.Arc{To: 1, CellTo: 1}, api.Local, true},
		{api.Arc{To: 1, CellTo: 1, Time: "2"}, api.Far, false}, {api.Arc{To: 1, CellTo: 1, Time: "0"}, api.Far, false}, {api.Arc{To: 1, CellTo: 1, Time: "2/2"}, api.Far, false}, {api.Arc{To: 1, CellTo: 1}, api.Far, false}, {api.Arc{To: 1, CellTo: 1, Time: "1"}, api.Local, false}, {api.Arc{To: 1, Time: "1"}, api.Far, false}, {api.Arc{To: 1}, api.Local, false}, {api.Arc{To: 1, CellFrom: 1, CellTo: 1}, api.Local, false}, {api.Arc{To: 1, CellFrom: -1, CellTo: 1}, api.Local, false}, {api.Arc{To: 1, CellTo: 2}, api.Local, false}, {api.Arc{To: 2, CellTo: 1}, api.Local, false}, {api.Arc{From: -1, To: 1, CellTo: 1}, api.Local, false}, {api.Arc{From: 1, To: 1, CellTo: 1}, api.Local, false}, {api.Arc{}, api.Local, false}, {api.Arc{From: 1, CellFrom: 1}, api.Local, false},
	} {
		want := api.ErrCertificate
		if c.ok {
			want = api.OK
		}
		if e := s.Verify(c.arc, x, c.blocking); e != want {
			t.Errorf("%d: Verify: %d, not %d", i, e, want)
		}
	}
	if e := s.Verify(api.Arc{From: 9}, point("0 0 0"), 0); e != api.ErrZero {
		t.Errorf("Verify: %d", e)
	}
	if e := s.Verify(api.Arc{From: 9}, x, 0); e != api.ErrKind {
		t.Errorf("Verify: %d", e)
	}
	// An interval that begins later does not block at once, and one that has ended does not block at all.
	far := open(t, build(cube(0, 0, 0), cube(3, 0, 0)))
	if e := far.Verify(api.Arc{To: 1}, x, api.Local); e != api.ErrCertificate {
		t.Errorf("Verify: %d", e)
	}
	if e := far.Verify(api.Arc{To: 1, Time: "-3"}, point("-1 0 0"), api.Far); e != api.ErrCertificate {
		t.Errorf("Verify: %d", e)
	}
}

// P21.4
func TestGraph(t *testing.T) {
	g, e := Graph([]int{-3, 2, 5}, []api.Arc{{From: 5, To: 2}, {From: -3, To: 5}, {From: 5, To: 2}})
	if g.Nodes != 3 || !slices.Equal(g.Edges, []graph.Edge{{From: 0, To: 2}, {From: 2, To: 1}}) || e != api.OK {
		t.Errorf("Graph = %v, %d", g, e)
	}
	var many []int
	for i := range graph.MaxNodes + 1 {
		many = append(many, i)
	}
	for i, c := range []struct {
		set  []int
		arcs []api.Arc
		e    api.Errno
	}{{nil, nil, api.ErrEmpty}, {[]int{1, 1}, []api.Arc{{}}, api.ErrOrder}, {append(slices.Clone(many), 0), nil, api.ErrOrder}, {many, []api.Arc{{From: 99}}, api.ErrLimit}, {many[:64], nil, api.OK}, {[]int{1, 2}, []api.Arc{{From: 1, To: 3}}, api.ErrNotFound}, {[]int{1, 2}, []api.Arc{{From: 0, To: 2}}, api.ErrNotFound}} {
		if g, e := Graph(c.set, c.arcs); e != c.e || e != api.OK && (g.Nodes != 0 || g.Edges != nil) {
			t.Errorf("%d: Graph: %d, not %d", i, e, c.e)
		}
	}
}

// P21.5
func TestBlockedAndMovable(t *testing.T) {
	s := row(t)
	x, z := point("1 0 0"), point("0 0 1")
	for i, c := range []struct {
		moved, rest []int
		d           api.Point
		blocking    int
		arc         api.Arc
		ok          bool
	}{{[]int{0, 1}, []int{2}, x, api.Far, api.Arc{From: 0, To: 2, Time: "2"}, true}, {[]int{0, 1}, []int{2}, x, api.Local, api.Arc{From: 1, To: 2}, true}, {[]int{2}, []int{0, 1}, x, api.Far, api.Arc{}, false}, {[]int{0, 1}, []int{0, 1}, x, api.Local, api.Arc{From: 0, To: 1}, true}, {[]int{1}, []int{1}, x, api.Local, api.Arc{}, false}, {[]int{0}, []int{1}, z, api.Far, api.Arc{}, false}} {
		if arc, ok, e := s.Blocked(c.moved, c.rest, c.d, c.blocking); arc != c.arc || ok != c.ok || e != api.OK {
			t.Errorf("%d: Blocked = %v, %t, %d", i, arc, ok, e)
		}
	}
	all := []int{0, 1, 2}
	for i, c := range []struct {
		set, moved []int
		d          api.Point
		want       bool
		e          api.Errno
	}{
		{all, []int{2}, x, true, api.OK}, {all, []int{1, 2}, x, true, api.OK}, {all, []int{0}, x, false, api.OK}, {all, []int{0, 2}, x, false, api.OK}, {[]int{0, 1}, []int{1}, x, true, api.OK}, {all, []int{1}, z, true, api.OK},
		{nil, nil, x, false, api.ErrEmpty}, {[]int{3}, nil, x, false, api.ErrRange}, {all, nil, x, false, api.ErrEmpty}, {all, []int{2, 1}, point("0 0 0"), false, api.ErrOrder}, {[]int{0, 1}, []int{2}, point("0 0 0"), false, api.ErrZero}, {[]int{0, 1}, []int{2}, x, false, api.ErrConflict}, {[]int{0, 1}, []int{1, 2}, x, false, api.ErrConflict}, {all, all, x, false, api.ErrConflict},
	} {
		if is, e := s.Movable(c.set, c.moved, c.d, api.Far); is != c.want || e != c.e {
			t.Errorf("%d: Movable = %t, %d", i, is, e)
		}
	}
	if is, e := s.Movable(all, all, x, 7); is || e != api.ErrKind {
		t.Errorf("Movable: %d", e)
	}
	if _, ok, e := s.Blocked([]int{0}, nil, x, 7); ok || e != api.ErrEmpty {
		t.Errorf("Blocked: %d", e)
	}
	if _, ok, e := s.Blocked([]int{0}, []int{1}, x, 7); ok || e != api.ErrKind {
		t.Errorf("Blocked: %d", e)
	}
}

// P21.6
func TestPlanes(t *testing.T) {
	s := row(t)
	points := func(l ...string) []api.Point {
		var p []api.Point
		for _, text := range l {
			p = append(p, point(text))
		}
		return p
	}
	for i, c := range []struct {
		s        *Scene
		set      []int
		blocking int
		want     []api.Point
	}{
		{s, []int{0, 1}, api.Local, points("1 0 0")}, {s, []int{0, 1, 2}, api.Local, points("1 0 0")}, {s, []int{0, 2}, api.Local, nil}, {s, []int{1}, api.Far, nil}, {s, []int{0, 1}, api.Far, points("1 0 0")}, {s, []int{0, 2}, api.Far, points("1 0 -1", "1 0 1", "1 -1 0", "1 1 0")},
		{open(t, build(cube(0, 0, 0), cube(1, 1, 0))), []int{0, 1}, api.Local, points("0 1 0", "1 0 0")},
	} {
		want := slices.Clone(c.want)
		slices.SortFunc(want, func(a, b api.Point) int {
			v, _ := vector.Read(a)
			w, _ := vector.Read(b)
			return vector.Compare(v, w)
		})
		if planes, e := c.s.Planes(c.set, c.blocking); !slices.Equal(planes, want) || e != api.OK {
			t.Errorf("%d: Planes = %v, %d", i, planes, e)
		}
	}
	if planes, e := s.Planes([]int{0}, 3); planes != nil || e != api.ErrKind {
		t.Errorf("Planes: %d", e)
	}
	// Cubes in different directions have different planes of Far.
	many := open(t, build(cube(0, 0, 0), cube(3, 1, 0), cube(-2, 5, 4), cube(7, -3, 9)))
	if planes, e := many.Planes([]int{0, 1, 2, 3}, api.Far); planes != nil || e != api.ErrLimit {
		t.Errorf("Planes: %d, %d", len(planes), e)
	}
}

// Methods of a nil scene return ErrArgument, or zero values.
func TestNil(t *testing.T) {
	var s *Scene
	x, e1 := s.Solid(0)
	e2 := s.CheckSet([]int{0})
	arc, ok, e3 := s.Arc(0, 1, point("1 0 0"), api.Far)
	arcs, e4 := s.Arcs([]int{0}, point("1 0 0"), api.Far)
	e5 := s.Verify(arc, point("1 0 0"), api.Far)
	_, ok2, e6 := s.Blocked([]int{0}, []int{1}, point("1 0 0"), api.Far)
	is, e7 := s.Movable([]int{0}, []int{1}, point("1 0 0"), api.Far)
	planes, e8 := s.Planes([]int{0}, api.Far)
	for i, e := range []api.Errno{e1, e2, e3, e4, e5, e6, e7, e8} {
		if e != api.ErrArgument {
			t.Errorf("%d: %d", i, e)
		}
	}
	if s.Len() != 0 || x.Cells != nil || ok || arcs != nil || ok2 || is || planes != nil {
		t.Error("the results are not zero")
	}
}

// P21.7
func TestConsequences(t *testing.T) {
	r := rand.New(rand.NewSource(1))
	all := []int{0, 1, 2, 3}
	for range 25 {
		s, a := random(t, r)
		d := vector.Of(api.Vector{r.Intn(5) - 2, r.Intn(5) - 2, 1}).Point()
		for _, blocking := range []int{api.Far, api.Local} {
			arcs, e := s.Arcs(all, d, blocking)
			if e != api.OK {
				t.Fatalf("Arcs: %d", e)
			}
			checkArcs(t, s, arcs, d, blocking)
			shifted, _ := assembly.Move(a, api.Placement{Turn: [4]int{1, 0, 0, 0}, Shift: point("1/2 7 -3")})
			if moved, _ := open(t, shifted).Arcs(all, d, blocking); !slices.Equal(moved, arcs) {
				t.Fatalf("the arcs are %v, and shifted %v", arcs, moved)
			}
			checkMovable(t, s, arcs, d, blocking)
			checkPlanes(t, r, s, d, blocking)
		}
	}
}

// checkArcs compares arcs with the meeting sets of package sweep.
func checkArcs(t *testing.T, s *Scene, arcs []api.Arc, d api.Point, blocking int) {
	t.Helper()
	v, _ := vector.Read(d)
	for from := range 4 {
		for to := range 4 {
			if from == to {
				continue
			}
			x, _ := s.Solid(from)
			y, _ := s.Solid(to)
			want, ok, e := sweep.Witness(x, y, v, blocking)
			want.From, want.To = from, to
			if e != api.OK || ok != slices.Contains(arcs, want) {
				t.Fatalf("from %d to %d: %v, %t, but %v", from, to, want, ok, arcs)
			}
			if ok && s.Verify(want, d, blocking) != api.OK {
				t.Fatalf("%v is not right", want)
			}
			if far, _, _ := s.Arc(from, to, d, api.Far); ok && far.From == far.To {
				t.Fatalf("%v blocks at once, but not far", want)
			}
			if set, _ := sweep.Meeting(x, y, v); ok && blocking == api.Far {
				if is, _ := interval.Contains(set, want.Time); !is {
					t.Fatalf("at %s both do not meet", want.Time)
				}
			}
		}
	}
}

// checkMovable compares what can be moved with the closed sets of the graph.
func checkMovable(t *testing.T, s *Scene, arcs []api.Arc, d api.Point, blocking int) {
	t.Helper()
	all := []int{0, 1, 2, 3}
	g, e := Graph(all, arcs)
	if e != api.OK {
		t.Fatal(e)
	}
	for bits := 1; bits < 15; bits++ {
		var moved []int
		for i := range 4 {
			if bits>>i&1 == 1 {
				moved = append(moved, i)
			}
		}
		is, e := s.Movable(all, moved, d, blocking)
		closed, _ := graph.Closed(g, moved)
		if is != closed || e != api.OK {
			t.Fatalf("Movable(%d) = %t, %d", moved, is, e)
		}
		less := slices.DeleteFunc(slices.Clone(moved), func(i int) bool { return i == 3 })
		if is && len(less) > 0 && len(less) < 3 {
			if part, _ := s.Movable([]int{0, 1, 2}, less, d, blocking); !part {
				t.Fatalf("%d can be moved, but not out of a part", moved)
			}
		}
	}
}

// checkPlanes compares the arcs of directions with the same signs against the planes of two instances.
func checkPlanes(t *testing.T, r *rand.Rand, s *Scene, d api.Point, blocking int) {
	t.Helper()
	v, _ := vector.Read(d)
	set := []int{0, 1}
	planes, e := s.Planes(set, blocking)
	if e != api.OK {
		return
	}
	arcs, _ := s.Arcs(set, d, blocking)
	for range 10 {
		w := vector.Add(vector.Scale(v, rational.From(4)), vector.Of(api.Vector{r.Intn(9) - 4, r.Intn(9) - 4, r.Intn(5) - 2}))
		p, e := vector.Primitive(w)
		if e != api.OK {
			continue
		}
		isSame := true
		for _, plane := range planes {
			n, _ := vector.Read(plane)
			isSame = isSame && vector.Dot(n, v).Sign() == vector.Dot(n, w).Sign()
		}
		others, _ := s.Arcs(set, p.Point(), blocking)
		if isSame && !slices.EqualFunc(arcs, others, func(a, b api.Arc) bool { return a.From == b.From && a.To == b.To }) {
			t.Fatalf("along %v the arcs are %v, and along %v %v", d, arcs, p.Point(), others)
		}
	}
}

func BenchmarkPlanesFar(b *testing.B) {
	s, _ := Open(build(cube(0, 0, 0), cube(3, 1, 0)))
	for b.Loop() {
		s.Planes([]int{0, 1}, api.Far)
	}
}
