package solid

import (
	"math"
	"math/rand"
	"slices"
	"testing"

	"dowel/api"
	"dowel/cell"
	"dowel/motion"
	"dowel/rational"
	"dowel/vector"
)

func box(x, y, z, a, b, c int) api.Cell {
	return api.Cell{Vertices: []api.Vector{{x, y, z}, {x, y, c}, {x, b, z}, {x, b, c}, {a, y, z}, {a, y, c}, {a, b, z}, {a, b, c}}}
}

func part(density int, cells ...api.Cell) api.Part {
	return api.Part{Name: "p", Density: density, Cells: cells}
}

func still() api.Placement {
	return api.Placement{Turn: [4]int{1, 0, 0, 0}, Shift: api.Point{"0", "0", "0"}}
}

func turned() api.Placement {
	return api.Placement{Turn: [4]int{2, 1, -3, 1}, Shift: api.Point{"1/2", "-7", "3"}}
}

func of(t *testing.T, p api.Part, at api.Placement) Solid {
	t.Helper()
	s, e := Of(p, at)
	if e != api.OK {
		t.Fatalf("Of(%v): %d", p, e)
	}
	return s
}

func shape(t *testing.T, c api.Cell, at api.Placement) cell.Shape {
	return of(t, part(1, c), at).Cells[0]
}

func vec(t *testing.T, x, y, z api.Number) vector.Vec {
	t.Helper()
	v, e := vector.Parse(api.Point{x, y, z})
	if e != api.OK {
		t.Fatal(e)
	}
	return v
}

func text(v vector.Vec) string {
	p := v.Point()
	return string(p[0] + " " + p[1] + " " + p[2])
}

// P11.1
func TestPenetrate(t *testing.T) {
	cube := box(0, 0, 0, 2, 2, 2)
	roof := api.Cell{Vertices: []api.Vector{{0, 0, 2}, {0, 2, 2}, {1, 1, 3}, {2, 0, 2}, {2, 2, 2}}}
	for i, c := range []struct {
		a, b api.Cell
		want bool
	}{
		{cube, cube, true}, {cube, box(1, 1, 1, 3, 3, 3), true}, {cube, box(2, 0, 0, 3, 2, 2), false}, {cube, box(2, 2, 0, 3, 3, 2), false}, {cube, box(2, 2, 2, 3, 3, 3), false}, {cube, box(5, 0, 0, 6, 1, 1), false}, {cube, box(-1, -1, -1, 3, 3, 3), true}, {cube, roof, false}, {box(0, 0, 0, 2, 2, 3), roof, true},
		// The least boxes overlap, but an edge separates the cells.
		{api.Cell{Vertices: []api.Vector{{0, 0, 0}, {0, 0, 4}, {0, 4, 0}, {4, 0, 0}}}, api.Cell{Vertices: []api.Vector{{1, 1, 2}, {4, 4, 0}, {4, 4, 4}, {4, 5, 4}}}, false},
		{api.Cell{Vertices: []api.Vector{{0, 0, 0}, {0, 0, 4}, {0, 4, 0}, {4, 0, 0}}}, api.Cell{Vertices: []api.Vector{{1, 1, 1}, {4, 4, 0}, {4, 4, 4}, {4, 5, 4}}}, true},
	} {
		for _, at := range []api.Placement{still(), turned()} {
			a, b := shape(t, c.a, at), shape(t, c.b, at)
			if Penetrate(a, b) != c.want || Penetrate(b, a) != c.want {
				t.Errorf("%d: Penetrate = %t", i, !c.want)
			}
		}
	}
	if Penetrate(cell.Shape{}, cell.Shape{}) {
		t.Error("nothing penetrates nothing")
	}
}

// Two edges that cross one another touch, or not, by an axis that is perpendicular to both.
func TestPenetrateAtEdges(t *testing.T) {
	a := api.Cell{Vertices: []api.Vector{{-4, 0, 0}, {0, -4, -4}, {0, 4, -4}, {4, 0, 0}}}
	for z, want := range map[int]bool{-1: true, 0: false, 1: false} {
		b := api.Cell{Vertices: []api.Vector{{-4, 0, z + 4}, {0, -4, z}, {0, 4, z}, {4, 0, z + 4}}}
		if got := Penetrate(shape(t, a, turned()), shape(t, b, turned())); got != want {
			t.Errorf("%d: Penetrate = %t", z, got)
		}
	}
}

// P11.1
func TestCheck(t *testing.T) {
	cube, flat := box(0, 0, 0, 2, 2, 2), api.Cell{}
	next := func(n int) []api.Cell {
		var l []api.Cell
		for i := range n {
			l = append(l, box(i, 0, 0, i+1, 1, 1))
		}
		return l
	}
	for i, c := range []struct {
		p api.Part
		e api.Errno
	}{
		{part(1, cube), api.OK}, {part(api.MaxSmall, next(6)...), api.OK}, {api.Part{Density: 3, Cells: next(2)}, api.OK}, {part(1, cube, box(2, 0, 0, 3, 1, 1)), api.OK},
		{part(0), api.ErrRange}, {part(-1, cube), api.ErrRange}, {part(api.MaxSmall + 1), api.ErrRange}, {part(1), api.ErrEmpty}, {part(1, append(next(6), flat)...), api.ErrLimit}, {part(1, cube, cube, flat), api.ErrFlat}, {part(1, flat, box(2, 0, 0, 1, 1, 1)), api.ErrFlat}, {part(1, box(2, 0, 0, 1, 1, 1), flat), api.ErrOrder}, {part(1, cube, cube), api.ErrPenetrate}, {part(1, cube, box(2, 0, 0, 3, 2, 2), box(1, 1, 1, 3, 3, 3)), api.ErrPenetrate},
	} {
		if e := Check(c.p); e != c.e {
			t.Errorf("%d: Check: %d, not %d", i, e, c.e)
		}
		if s, e := Of(c.p, still()); e != c.e || e != api.OK && !Equal(s, Solid{}) {
			t.Errorf("%d: Of: %d", i, e)
		}
		if p, e := Cut(c.p, -1, api.Vector{}, 0); c.e != api.OK && (e != c.e || p.Cells != nil) {
			t.Errorf("%d: Cut: %d", i, e)
		}
	}
}

// P11.2
func TestOfMoveShift(t *testing.T) {
	p := part(2, box(0, 0, 0, 2, 1, 1), box(0, 1, 0, 1, 2, 1))
	s := of(t, p, api.Placement{Turn: [4]int{1, 0, 0, 1}, Shift: api.Point{"10", "0", "1/2"}})
	if s.Density != 2 || len(s.Cells) != 2 || text(s.Cells[1].Vertices[7]) != "8 1 3/2" {
		t.Errorf("Of = %v", s)
	}
	bad := still()
	bad.Turn[0] = 13
	if s, e := Of(p, bad); e != api.ErrRange || s.Cells != nil || s.Density != 0 {
		t.Errorf("Of: %d", e)
	}
	m, _ := motion.Of(turned())
	if !Equal(Move(of(t, p, still()), m), of(t, p, turned())) {
		t.Error("Move")
	}
	v := vec(t, "1/3", "-2", "5")
	shift := motion.Identity()
	shift.Shift = v
	before := of(t, p, turned())
	after := Shift(before, v)
	if !Equal(after, Move(before, shift)) {
		t.Error("Shift")
	}
	after.Cells[0].Faces[0].Vertices[0], after.Cells[0].Edges[0].From = 5, 5
	if !Equal(before, of(t, p, turned())) {
		t.Error("Shift has changed its argument")
	}
}

// P11.3
func TestLocate(t *testing.T) {
	s := of(t, part(2, box(0, 0, 0, 2, 1, 1), box(0, 1, 0, 1, 2, 1)), still())
	for _, c := range []struct {
		p     vector.Vec
		where int
		cells []int
	}{{vec(t, "1/2", "1", "1/2"), cell.Boundary, []int{0, 1}}, {vec(t, "1", "1/2", "1/2"), cell.Inside, []int{0}}, {vec(t, "1/2", "3/2", "1/2"), cell.Inside, []int{1}}, {vec(t, "3/2", "1", "1/2"), cell.Boundary, []int{0}}, {vec(t, "3/2", "3/2", "1/2"), cell.Outside, nil}, {vec(t, "0", "2", "0"), cell.Boundary, []int{1}}} {
		if where, cells := Locate(s, c.p); where != c.where || !slices.Equal(cells, c.cells) {
			t.Errorf("Locate(%s) = %d, %d", text(c.p), where, cells)
		}
	}
}

// P11.4, P11.5
func TestExtentBoxVolume(t *testing.T) {
	p := part(2, box(0, 0, 0, 2, 1, 1), box(0, 1, 0, 1, 2, 1))
	s := of(t, p, still())
	low, high := Extent(s, vec(t, "1", "-1", "1/2"))
	if low.Number() != "-2" || high.Number() != "5/2" {
		t.Errorf("Extent = %s, %s", low.Number(), high.Number())
	}
	if low, high := Box(of(t, p, api.Placement{Turn: [4]int{1, 0, 0, 1}, Shift: api.Point{"5", "0", "0"}})); text(low) != "3 0 0" || text(high) != "5 2 1" {
		t.Errorf("Box = %s, %s", text(low), text(high))
	}
	if Volume(s).Number() != "3" || Mass(s).Number() != "6" || text(Centre(s)) != "5/6 5/6 1/2" {
		t.Errorf("Volume = %s, Mass = %s, Centre = %s", Volume(s).Number(), Mass(s).Number(), text(Centre(s)))
	}
	other := of(t, p, still())
	other.Density = 3
	swapped := of(t, part(2, p.Cells[1], p.Cells[0]), still())
	if !Equal(s, of(t, p, still())) || Equal(s, other) || Equal(s, swapped) || Equal(s, Solid{Density: 2, Cells: s.Cells[:1]}) {
		t.Error("Equal")
	}
}

// P11.6
func TestCut(t *testing.T) {
	cube := part(3, box(5, 0, 0, 7, 1, 1), box(0, 0, 0, 2, 2, 2))
	p, e := Cut(cube, 1, api.Vector{1, 1, 0}, 2)
	if e != api.OK || len(p.Cells) != 3 || p.Density != 3 || p.Name != "p" || Check(p) != api.OK {
		t.Fatalf("Cut = %v, %d", p, e)
	}
	if !slices.Equal(p.Cells[1].Vertices, []api.Vector{{0, 0, 0}, {0, 0, 2}, {0, 2, 0}, {0, 2, 2}, {2, 0, 0}, {2, 0, 2}}) || !slices.Equal(p.Cells[2].Vertices, []api.Vector{{0, 2, 0}, {0, 2, 2}, {2, 0, 0}, {2, 0, 2}, {2, 2, 0}, {2, 2, 2}}) || !slices.Equal(p.Cells[0].Vertices, cube.Cells[0].Vertices) {
		t.Errorf("Cut = %v", p)
	}
	p, e = Cut(cube, 1, api.Vector{-1, 0, 0}, -1)
	if e != api.OK || !slices.Equal(p.Cells[1].Vertices, box(1, 0, 0, 2, 2, 2).Vertices) || !slices.Equal(p.Cells[2].Vertices, box(0, 0, 0, 1, 2, 2).Vertices) {
		t.Errorf("Cut = %v, %d", p, e)
	}
	p.Cells[0].Vertices[0][0] = 9
	if cube.Cells[0].Vertices[0][0] != 5 {
		t.Error("Cut has changed its argument")
	}
	var six []api.Cell
	for i := range 6 {
		six = append(six, box(2*i, 0, 0, 2*i+2, 2, 2))
	}
	drum := drum(t)
	for i, c := range []struct {
		p      api.Part
		index  int
		normal api.Vector
		offset int
		e      api.Errno
	}{
		{cube, -1, api.Vector{}, 0, api.ErrRange}, {cube, 2, api.Vector{}, 0, api.ErrRange}, {cube, 1, api.Vector{}, 0, api.ErrZero}, {cube, 1, api.Vector{0, 0, api.MaxCoord + 1}, 0, api.ErrRange}, {cube, 1, api.Vector{math.MinInt, 0, 0}, 0, api.ErrRange}, {part(1, six...), 0, api.Vector{0, 0, 5000}, 0, api.ErrRange}, {part(1, six...), 0, api.Vector{1, 0, 0}, 9, api.ErrLimit},
		{cube, 1, api.Vector{1, 0, 0}, 2, api.ErrFlat}, {cube, 1, api.Vector{1, 0, 0}, 0, api.ErrFlat}, {cube, 1, api.Vector{1, 0, 0}, math.MaxInt, api.ErrFlat}, {cube, 1, api.Vector{1, 0, 0}, math.MinInt, api.ErrFlat}, {cube, 1, api.Vector{1, 1, 1}, 0, api.ErrFlat}, {cube, 1, api.Vector{2, 0, 0}, 1, api.ErrForm}, {cube, 1, api.Vector{2, 1, 0}, 3, api.ErrForm}, {cube, 1, api.Vector{1, 1, 1}, 3, api.OK}, {cube, 1, api.Vector{api.MaxCoord, 0, 0}, api.MaxCoord, api.OK},
		{drum, 0, api.Vector{0, 0, 1}, 3, api.ErrLimit}, {drum, 0, api.Vector{0, 0, 2}, 5, api.ErrForm},
	} {
		if p, e := Cut(c.p, c.index, c.normal, c.offset); e != c.e || e != api.OK && p.Cells != nil {
			t.Errorf("%d: Cut: %d, not %d", i, e, c.e)
		}
	}
}

// drum returns a part with eight vertices below and four above; a plane between them cuts twelve edges, so that a cell would have too many vertices.
func drum(t *testing.T) api.Part {
	t.Helper()
	var l []api.Vector
	for _, v := range [][2]int{{4, 8}, {8, 4}, {8, -4}, {4, -8}, {-4, -8}, {-8, -4}, {-8, 4}, {-4, 8}} {
		l = append(l, api.Vector{v[0], v[1], 0})
	}
	for _, v := range [][2]int{{8, 4}, {-4, 8}, {-8, -4}, {4, -8}} {
		l = append(l, api.Vector{v[0], v[1], 12})
	}
	c, e := cell.Hull(l)
	if e != api.OK || len(c.Vertices) != 12 {
		t.Fatalf("Hull: %d", e)
	}
	return part(1, c)
}

// P11.7
func TestConsequences(t *testing.T) {
	r := rand.New(rand.NewSource(1))
	m, _ := motion.Of(turned())
	for range 200 {
		x, y, z := 1+r.Intn(3), 1+r.Intn(3), 1+r.Intn(3)
		p := part(2, box(0, 0, 0, 2*x, 2*y, 2*z), box(2*x, 0, 0, 3*x, y, z))
		normal := api.Vector{r.Intn(3) - 1, r.Intn(3) - 1, r.Intn(3) - 1}
		q, e := Cut(p, r.Intn(2), normal, r.Intn(7)-2)
		if e != api.OK {
			continue
		}
		a, b := of(t, p, turned()), of(t, q, turned())
		if rational.Compare(Volume(a), Volume(b)) != 0 || !vector.Equal(Centre(a), Centre(b)) || Check(q) != api.OK {
			t.Fatalf("Cut of %v = %v", p, q)
		}
		lowA, highA := Box(a)
		lowB, highB := Box(b)
		if !vector.Equal(lowA, lowB) || !vector.Equal(highA, highB) {
			t.Fatalf("the box of %v has changed", p)
		}
		for range 20 {
			v := motion.Apply(m, vec(t, rational.From(r.Intn(7)).Number(), rational.From(r.Intn(7)).Number(), rational.From(r.Intn(7)).Number()))
			before, _ := Locate(a, v)
			after, _ := Locate(b, v)
			if before != after && (before != cell.Inside || after != cell.Boundary) {
				t.Fatalf("%s lies at %d, and then at %d", text(v), before, after)
			}
			fixed, cells := Locate(of(t, p, still()), motion.Apply(motion.Invert(m), v))
			if where, l := Locate(a, v); where != fixed || !slices.Equal(l, cells) {
				t.Fatalf("moving changes where %s lies", text(v))
			}
		}
		if s := of(t, p, still()); rational.Compare(Volume(s), Volume(a)) != 0 || !vector.Equal(motion.Apply(m, Centre(s)), Centre(a)) {
			t.Fatalf("moving changes the volume of %v", p)
		}
		for _, c := range q.Cells {
			if e := Check(part(1, c)); e != api.OK {
				t.Fatalf("a cell of %v is not valid: %d", q, e)
			}
		}
	}
}

// Solids that are not valid lead to no panic.
func TestInvalidSolids(t *testing.T) {
	s := Solid{Cells: []cell.Shape{{Edges: []cell.Edge{{From: -1, To: 9}}, Faces: []cell.Face{{Vertices: []int{3, 4, 5}}}}}}
	Move(s, motion.Motion{})
	Shift(s, vector.Vec{})
	Locate(s, vector.Vec{})
	Box(Solid{})
	Centre(Solid{})
	Mass(s)
	Penetrate(s.Cells[0], s.Cells[0])
}
