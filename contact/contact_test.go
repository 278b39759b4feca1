package contact

import (
	"fmt"
	"math/rand"
	"slices"
	"strings"
	"testing"

	"dowel/api"
	"dowel/assembly"
	"dowel/cell"
	"dowel/meeting"
	"dowel/motion"
	"dowel/rational"
	"dowel/solid"
	"dowel/vector"
)

func box(x, y, z, a, b, c int) api.Cell {
	return api.Cell{Vertices: []api.Vector{{x, y, z}, {x, y, c}, {x, b, z}, {x, b, c}, {a, y, z}, {a, y, c}, {a, b, z}, {a, b, c}}}
}

// build returns an assembly whose instances stay where the cells of their parts are.
func build(parts ...[]api.Cell) api.Assembly {
	var a api.Assembly
	for i, cells := range parts {
		name := string(rune('a' + i))
		a.Parts = append(a.Parts, api.Part{Name: name, Density: 1, Cells: cells})
		a.Instances = append(a.Instances, api.Instance{Name: name, Part: name, Place: api.Placement{Turn: [4]int{1, 0, 0, 0}, Shift: api.Point{"0", "0", "0"}}})
	}
	return a
}

func solids(t *testing.T, a api.Assembly) []solid.Solid {
	t.Helper()
	l, e := assembly.Place(a)
	if e != api.OK {
		t.Fatalf("Place: %d", e)
	}
	return l
}

func points(text string) []api.Point {
	var l []api.Point
	for part := range strings.SplitSeq(text, ",") {
		f := strings.Fields(part)
		l = append(l, api.Point{api.Number(f[0]), api.Number(f[1]), api.Number(f[2])})
	}
	return l
}

func equal(a, b api.Contact) bool {
	return a.A == b.A && a.B == b.B && a.CellA == b.CellA && a.CellB == b.CellB && slices.Equal(a.Points, b.Points) && slices.Equal(a.Normals, b.Normals)
}

func isZero(c api.Contact) bool { return equal(c, api.Contact{}) && c.Points == nil }

func contact(a, b, cellA, cellB int, at, normals string) api.Contact {
	return api.Contact{A: a, B: b, CellA: cellA, CellB: cellB, Points: points(at), Normals: points(normals)}
}

func cube(x, y, z int) []api.Cell { return []api.Cell{box(x, y, z, x+1, y+1, z+1)} }

func square() string { return "1 0 0,1 1 0,1 1 1,1 0 1" }

// P16.1
func TestPatch(t *testing.T) {
	l := solids(t, build(cube(0, 0, 0), cube(1, 0, 0), cube(1, 1, 0), cube(1, 1, 1), cube(5, 0, 0), cube(-1, 0, 0), cube(0, 0, 0)))
	a := l[0].Cells[0]
	for i, want := range []struct{ points, normals string }{{square(), "1 0 0"}, {"1 1 0,1 1 1", "0 1 0,1 0 0"}, {"1 1 1", "0 0 1,0 1 0,1 0 0"}, {"", ""}, {"0 0 0,0 0 1,0 1 1,0 1 0", "-1 0 0"}, {"", ""}} {
		p, n := Patch(a, l[i+1].Cells[0])
		if want.points == "" {
			if p != nil || n != nil {
				t.Errorf("%d: Patch = %v, %v", i, plain(p), plain(n))
			}
			continue
		}
		if !slices.Equal(plain(p), points(want.points)) || !slices.Equal(plain(n), points(want.normals)) {
			t.Errorf("%d: Patch = %v, %v", i, plain(p), plain(n))
		}
	}
}

// P16.1
func TestFeatures(t *testing.T) {
	tip := []api.Cell{{Vertices: []api.Vector{{2, 1, 1}, {3, 1, 2}, {3, 2, 1}, {4, 1, 1}}}}
	l := solids(t, build([]api.Cell{box(0, 0, 0, 2, 2, 2)}, tip))
	a, b := l[0].Cells[0], l[1].Cells[0]
	for _, c := range []struct {
		n        api.Vector
		ofA, ofB int
	}{{api.Vector{1, 0, 0}, Face, Vertex}, {api.Vector{1, 1, 0}, Edge, Vertex}, {api.Vector{1, 1, 1}, Vertex, Vertex}, {api.Vector{-1, -1, -1}, Vertex, Face}, {api.Vector{0, 0, -1}, Face, Vertex}, {api.Vector{0, 1, 1}, Edge, Edge}, {api.Vector{0, 0, 1}, Face, Face}} {
		if ofA, ofB := Features(a, b, vector.Of(c.n)); ofA != c.ofA || ofB != c.ofB {
			t.Errorf("Features along %v = %d, %d", c.n, ofA, ofB)
		}
	}
}

// P16.2
func TestBetween(t *testing.T) {
	whole := api.Contact{A: 3, B: 7, Points: points(square()), Normals: points("1 0 0")}
	for i, c := range []struct {
		a, b []api.Cell
		want []api.Contact
	}{
		{cube(0, 0, 0), cube(1, 0, 0), []api.Contact{whole}}, {cube(0, 0, 0), cube(2, 0, 0), nil}, {cube(0, 0, 0), cube(0, 0, 0), nil},
		// Patches in one plane are merged, and points between others left out.
		{[]api.Cell{box(0, 0, 0, 1, 2, 1), box(0, 0, 1, 1, 2, 2)}, []api.Cell{box(1, 0, 0, 2, 2, 2)}, []api.Contact{contact(3, 7, 0, 0, "1 0 0,1 2 0,1 2 2,1 0 2", "1 0 0")}},
		// An L: two planes, and an edge that is not proper.
		{[]api.Cell{box(0, 0, 0, 4, 1, 1), box(0, 1, 0, 1, 2, 1)}, []api.Cell{box(1, 1, 0, 2, 2, 1)}, []api.Contact{contact(3, 7, 0, 0, "1 1 0,1 1 1,2 1 1,2 1 0", "0 1 0"), contact(3, 7, 1, 0, "1 1 0,1 2 0,1 2 1,1 1 1", "1 0 0")}},
		{cube(0, 0, 0), []api.Cell{box(1, 1, 0, 2, 2, 1), box(5, 5, 5, 6, 6, 6)}, []api.Contact{contact(3, 7, 0, 0, "1 1 0,1 1 1", "0 1 0,1 0 0")}},
		// The same normal in two planes.
		{[]api.Cell{box(0, 0, 0, 1, 1, 1), box(0, 1, 0, 2, 2, 1)}, []api.Cell{box(1, 0, 0, 3, 1, 1), box(2, 1, 0, 3, 2, 1)}, []api.Contact{contact(3, 7, 0, 0, square(), "1 0 0"), contact(3, 7, 1, 0, "1 1 0,2 1 0,2 1 1,1 1 1", "0 -1 0"), contact(3, 7, 1, 1, "2 1 0,2 2 0,2 2 1,2 1 1", "1 0 0")}},
		// Patches in one plane that have no common point are merged, too.
		{[]api.Cell{box(0, 0, 0, 1, 1, 1), box(0, 2, 0, 1, 3, 1)}, []api.Cell{box(1, 0, 0, 2, 3, 1)}, []api.Contact{contact(3, 7, 0, 0, "1 0 0,1 3 0,1 3 1,1 0 1", "1 0 0")}},
		// Of one solid that penetrates another one there are none.
		{[]api.Cell{box(0, 0, 0, 1, 1, 1), box(5, 0, 0, 7, 1, 1)}, []api.Cell{box(1, 0, 0, 2, 1, 1), box(6, 0, 0, 8, 1, 1)}, nil},
	} {
		l := solids(t, build(c.a, c.b))
		if got := Between(l[0], l[1], 3, 7); !slices.EqualFunc(got, c.want, equal) {
			t.Errorf("%d: Between = %v", i, got)
		}
	}
}

// P16.2
func TestOf(t *testing.T) {
	a := build(cube(0, 0, 0), cube(2, 0, 0), cube(1, 0, 0))
	l, e := Of(a)
	want := []api.Contact{contact(0, 2, 0, 0, square(), "1 0 0"), contact(1, 2, 0, 0, "2 0 0,2 0 1,2 1 1,2 1 0", "-1 0 0")}
	if !slices.EqualFunc(l, want, equal) || e != api.OK {
		t.Errorf("Of = %v, %d", l, e)
	}
	if l, e := Of(build(cube(0, 0, 0), cube(0, 0, 0))); l != nil || e != api.ErrPenetrate {
		t.Errorf("Of: %d", e)
	}
	a.Instances[2].Part = "none"
	if l, e := Of(a); l != nil || e != api.ErrUnknown {
		t.Errorf("Of: %d", e)
	}
	if l, e := Of(api.Assembly{}); len(l) != 0 || e != api.OK {
		t.Errorf("Of: %d", e)
	}
}

// P16.3
func TestCheck(t *testing.T) {
	good := contact(0, 1, 0, 0, square(), "1 0 0")
	edge := contact(0, 1, 0, 0, "1 1 0,1 1 1", "0 1 0,1 0 0")
	with := func(c api.Contact, f func(*api.Contact)) api.Contact {
		c.Points, c.Normals = slices.Clone(c.Points), slices.Clone(c.Normals)
		f(&c)
		return c
	}
	for i, c := range []struct {
		c api.Contact
		e api.Errno
	}{
		{good, api.OK}, {edge, api.OK}, {contact(5, 2, 3, 1, "0 1/2 7", "-1 0 0,1 2 3"), api.OK}, {contact(0, 1, 0, 0, "0 0 0,0 1 0,0 0 1", "-1 0 0"), api.ErrOrder}, {contact(0, 1, 0, 0, "0 0 0,0 0 1,0 1 0", "-1 0 0"), api.OK},
		{api.Contact{A: -1, B: -1}, api.ErrRange}, {with(good, func(c *api.Contact) { c.B = -1 }), api.ErrRange}, {with(good, func(c *api.Contact) { c.CellA = -1 }), api.ErrRange}, {with(good, func(c *api.Contact) { c.CellB = -1 }), api.ErrRange}, {api.Contact{}, api.ErrConflict}, {api.Contact{A: 1}, api.ErrEmpty}, {api.Contact{A: 1, Points: points("x x x")}, api.ErrEmpty}, {api.Contact{A: 1, Normals: points("x x x")}, api.ErrEmpty},
		{contact(0, 1, 0, 0, "1 2/4 x", "x 0 0"), api.ErrForm}, {contact(0, 1, 0, 0, "1 0 0,1 1/0 0", "x 0 0"), api.ErrZero}, {contact(0, 1, 0, 0, "1 0 0", "0 0 0,x 0 0"), api.ErrSyntax}, {contact(0, 1, 0, 0, "1 0 0", "2 0 0,0 0 0"), api.ErrZero}, {contact(0, 1, 0, 0, "1 0 0", "1 0 0,1/2 0 0"), api.ErrForm}, {contact(0, 1, 0, 0, "1 0 0", "2 0 0"), api.ErrForm},
		{with(edge, func(c *api.Contact) { slices.Reverse(c.Normals); slices.Reverse(c.Points) }), api.ErrOrder}, {contact(0, 1, 0, 0, "1 0 0,2 0 0", "1 0 0,1 0 0"), api.ErrOrder}, {contact(0, 1, 0, 0, "1 0 0,2 0 0", "1 0 0"), api.ErrConflict}, {contact(0, 1, 0, 0, "2 0 0,1 0 0,1 0 0", "0 1 0,1 0 0"), api.ErrConflict},
		{with(good, func(c *api.Contact) { slices.Reverse(c.Points) }), api.ErrOrder}, {with(good, func(c *api.Contact) { slices.Reverse(c.Points[1:]) }), api.ErrOrder}, {with(good, func(c *api.Contact) { c.Points[0], c.Points[2] = c.Points[2], c.Points[0] }), api.ErrOrder}, {with(edge, func(c *api.Contact) { slices.Reverse(c.Points) }), api.ErrOrder}, {contact(0, 1, 0, 0, "1 1 0,1 1 0", "1 0 0"), api.ErrOrder}, {contact(0, 1, 0, 0, "1 0 0,1 1 0,1 2 0", "1 0 0"), api.ErrOrder}, {contact(0, 1, 0, 0, "1 0 0,1 1 0,1 2 0,1 0 1", "1 0 0"), api.ErrOrder}, {contact(0, 1, 0, 0, "1 0 0,1 3 0,1 1 1,1 0 3", "1 0 0"), api.ErrOrder},
	} {
		if e := Check(c.c); e != c.e {
			t.Errorf("%d: Check: %d, not %d", i, e, c.e)
		}
		f, e1 := Flip(c.c)
		p, e2 := Plane(c.c)
		if e1 != c.e || e2 != c.e || c.e != api.OK && (!isZero(f) || p != (api.Plane{})) {
			t.Errorf("%d: Flip: %d, Plane: %d", i, e1, e2)
		}
	}
}

// P16.4
func TestIsProperFlipPlane(t *testing.T) {
	good := contact(0, 1, 2, 3, square(), "1 0 0")
	f, e := Flip(good)
	if !equal(f, contact(1, 0, 3, 2, "1 0 0,1 0 1,1 1 1,1 1 0", "-1 0 0")) || e != api.OK {
		t.Errorf("Flip = %v, %d", f, e)
	}
	if back, e := Flip(f); !equal(back, good) || e != api.OK {
		t.Errorf("Flip = %v, %d", back, e)
	}
	edge := contact(0, 1, 0, 0, "1 1 0,1 1 1", "0 1 0,1 0 0")
	f, e = Flip(edge)
	if !equal(f, contact(1, 0, 0, 0, "1 1 0,1 1 1", "-1 0 0,0 -1 0")) || e != api.OK {
		t.Errorf("Flip = %v, %d", f, e)
	}
	if !IsProper(good) || IsProper(edge) || IsProper(api.Contact{}) || !IsProper(api.Contact{Normals: points("x x x")}) {
		t.Error("IsProper")
	}
	if p, e := Plane(edge); p != (api.Plane{Normal: api.Point{"0", "1", "0"}, Offset: "1"}) || e != api.OK {
		t.Errorf("Plane = %v, %d", p, e)
	}
	if p, e := Plane(contact(0, 1, 0, 0, "1/2 5 5", "-3 0 0,-1 0 0")); p != (api.Plane{}) || e != api.ErrForm {
		t.Errorf("Plane = %v, %d", p, e)
	}
	if good.Normals[0] != (api.Point{"1", "0", "0"}) || !slices.Equal(good.Points, points(square())) {
		t.Error("Flip has changed its argument")
	}
}

// P16.5
func TestSelect(t *testing.T) {
	l := []api.Contact{{A: 0, B: 1}, {A: 0, B: 2}, {A: 1, B: 2}, {A: 2, B: 3}}
	for _, c := range []struct{ set, rest, want []int }{{[]int{0}, []int{1, 2}, []int{0, 1}}, {[]int{2}, []int{0, 3}, []int{1, 3}}, {[]int{0, 1, 2, 3}, []int{0, 1, 2, 3}, []int{0, 1, 2, 3}}, {nil, []int{0, 1}, nil}, {[]int{3}, []int{0}, nil}, {[]int{9, -1, 3}, []int{2, 2}, []int{3}}} {
		if got := Select(l, c.set, c.rest); !slices.Equal(got, c.want) {
			t.Errorf("Select(%d, %d) = %d", c.set, c.rest, got)
		}
	}
}

// random returns an assembly of two turned parts that often touch.
func random(r *rand.Rand) api.Assembly {
	x := r.Intn(2)
	a := build([]api.Cell{box(0, 0, 0, 2, 2, 2), box(0, 0, 2, 1, 2, 3)}, []api.Cell{box(2-x, 0, 2, 4, 1, 3), {Vertices: []api.Vector{{4, 0, 2}, {4, 1, 2}, {4, 1, 4}, {5 + x, 0, 2}}}})
	quarters := motion.Quarters()
	if r.Intn(3) > 0 {
		a.Instances[1].Place.Turn = quarters[r.Intn(24)]
	}
	for i := range 3 {
		a.Instances[1].Place.Shift[i] = rational.From(r.Intn(7) - 3).Number()
	}
	return a
}

// P16.6
func TestConsequences(t *testing.T) {
	r := rand.New(rand.NewSource(2))
	turn := api.Placement{Turn: [4]int{2, 1, -3, 1}, Shift: api.Point{"1/2", "-7", "3"}}
	m, _ := motion.Of(turn)
	found := 0
	for range 250 {
		a := random(r)
		l := solids(t, a)
		got := Between(l[0], l[1], 0, 1)
		if (len(got) > 0) != (assembly.Status(l[0], l[1]) == api.Touching) {
			t.Fatalf("%v: %d contacts", a, len(got))
		}
		var flipped, back []string
		for _, c := range got {
			found++
			checkContact(t, l, c)
			f, _ := Flip(c)
			if again, _ := Flip(f); !equal(again, c) {
				t.Fatalf("Flip of Flip of %v is %v", c, again)
			}
			flipped = append(flipped, fmt.Sprint(f.Points, f.Normals))
		}
		for _, c := range Between(l[1], l[0], 1, 0) {
			back = append(back, fmt.Sprint(c.Points, c.Normals))
		}
		slices.Sort(flipped)
		slices.Sort(back)
		if !slices.Equal(flipped, back) {
			t.Fatalf("%v: the contacts are %v, and back %v", a, flipped, back)
		}
		moved := Between(solid.Move(l[0], m), solid.Move(l[1], m), 0, 1)
		if len(moved) != len(got) {
			t.Fatalf("%v: the moved contacts are %v", a, moved)
		}
	}
	if found < 30 {
		t.Errorf("only %d contacts", found)
	}
}

// checkContact checks that the points of a contact belong to both solids, and that these lie on both sides of its planes.
func checkContact(t *testing.T, l []solid.Solid, c api.Contact) {
	t.Helper()
	if e := Check(c); e != api.OK {
		t.Fatalf("Check(%v): %d", c, e)
	}
	x, y := l[0].Cells[c.CellA], l[1].Cells[c.CellB]
	for _, p := range c.Normals {
		n, _ := vector.Read(p)
		at, _ := vector.Read(c.Points[0])
		_, high := cell.Extent(x, n)
		low, _ := cell.Extent(y, n)
		offset := vector.Dot(n, at)
		if rational.Compare(high, offset) != 0 || rational.Compare(low, offset) != 0 {
			t.Fatalf("the plane of %v does not lie between its cells", c)
		}
		if !slices.ContainsFunc(meeting.Axes(x, y), func(a vector.Vec) bool { return vector.Equal(a, n) }) {
			t.Fatalf("the normal of %v is no axis", c)
		}
	}
	for _, p := range c.Points {
		v, _ := vector.Read(p)
		inX, _ := solid.Locate(l[0], v)
		inY, _ := solid.Locate(l[1], v)
		if inX == cell.Outside || inY == cell.Outside {
			t.Fatalf("the point %v does not belong to both solids", p)
		}
	}
	if ofA, ofB := Features(x, y, mustRead(c.Normals[0])); IsProper(c) && (ofA == Vertex && ofB == Vertex || ofA == Vertex && ofB == Edge || ofA == Edge && ofB == Vertex) {
		t.Fatalf("%v is proper, with the features %d and %d", c, ofA, ofB)
	}
}

func mustRead(p api.Point) vector.Vec {
	v, _ := vector.Read(p)
	return v
}
