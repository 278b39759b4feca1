package cell

import (
	"math"
	"math/rand"
	"slices"
	"testing"

	"dowel/api"
	"dowel/motion"
	"dowel/rational"
	"dowel/vector"
)

func box(x, y, z, a, b, c int) api.Cell {
	return api.Cell{Vertices: []api.Vector{{x, y, z}, {x, y, c}, {x, b, z}, {x, b, c}, {a, y, z}, {a, y, c}, {a, b, z}, {a, b, c}}}
}

func of(t *testing.T, c api.Cell) Shape {
	t.Helper()
	s, e := Of(c)
	if e != api.OK {
		t.Fatalf("Of(%v): %d", c, e)
	}
	return s
}

func vec(t *testing.T, x, y, z api.Number) vector.Vec {
	t.Helper()
	v, e := vector.Parse(api.Point{x, y, z})
	if e != api.OK {
		t.Fatal(e)
	}
	return v
}

func ints(x, y, z int) vector.Vec { return vector.Of(api.Vector{x, y, z}) }

func text(v vector.Vec) string {
	p := v.Point()
	return string(p[0] + " " + p[1] + " " + p[2])
}

func corner() api.Cell {
	return api.Cell{Vertices: []api.Vector{{0, 0, 0}, {0, 0, 1}, {0, 1, 0}, {1, 0, 0}}}
}

// moved returns a shape that is turned and shifted.
func moved(t *testing.T, s Shape) (Shape, motion.Motion) {
	t.Helper()
	m, e := motion.Of(api.Placement{Turn: [4]int{2, 1, -3, 1}, Shift: api.Point{"1/2", "-7", "3"}})
	if e != api.OK {
		t.Fatal(e)
	}
	return Place(s, m), m
}

// hulls returns random cells, and the points of which they are made.
func hulls(t *testing.T, count int) (cells []api.Cell, points [][]api.Vector) {
	r := rand.New(rand.NewSource(1))
	for len(cells) < count {
		var l []api.Vector
		size := 2 + r.Intn(6)
		for range 4 + r.Intn(12) {
			l = append(l, api.Vector{r.Intn(size) - 1, r.Intn(size) - 1, r.Intn(size) - 1})
		}
		c, e := Hull(l)
		if e == api.ErrFlat {
			continue
		}
		if e != api.OK {
			t.Fatalf("Hull(%v): %d", l, e)
		}
		cells, points = append(cells, c), append(points, l)
	}
	return cells, points
}

// P9.1
func TestCheck(t *testing.T) {
	cube := box(0, 0, 0, 2, 2, 2)
	with := func(i int, v api.Vector) api.Cell {
		c := api.Cell{Vertices: slices.Clone(cube.Vertices)}
		c.Vertices[i] = v
		return c
	}
	inserted := func(i int, v api.Vector) api.Cell {
		return api.Cell{Vertices: slices.Insert(slices.Clone(cube.Vertices), i, v)}
	}
	var many []api.Vector
	for i := range 17 {
		many = append(many, api.Vector{i, i * i, i * i * i})
	}
	for i, c := range []struct {
		c api.Cell
		e api.Errno
	}{
		{corner(), api.OK}, {cube, api.OK}, {box(-api.MaxCoord, -api.MaxCoord, -api.MaxCoord, api.MaxCoord, api.MaxCoord, api.MaxCoord), api.OK}, {api.Cell{Vertices: many[:16]}, api.OK},
		{api.Cell{Vertices: many}, api.ErrLimit}, {api.Cell{Vertices: slices.Repeat([]api.Vector{{9999, 0, 0}}, 17)}, api.ErrLimit},
		{with(7, api.Vector{2, 2, api.MaxCoord + 1}), api.ErrRange}, {with(0, api.Vector{-api.MaxCoord - 1, 0, 0}), api.ErrRange}, {with(7, api.Vector{2, math.MinInt, 2}), api.ErrRange},
		{with(1, api.Vector{0, 0, 0}), api.ErrOrder}, {with(2, api.Vector{0, 0, 0}), api.ErrOrder}, {with(3, api.Vector{-5000, 0, 0}), api.ErrRange},
		{api.Cell{Vertices: []api.Vector{{1, 0, 0}, {0, 0, 0}, {9999, 0, 0}}}, api.ErrOrder},
		{api.Cell{}, api.ErrFlat}, {api.Cell{Vertices: cube.Vertices[:1]}, api.ErrFlat}, {api.Cell{Vertices: corner().Vertices[:3]}, api.ErrFlat}, {api.Cell{Vertices: cube.Vertices[:4]}, api.ErrFlat}, {api.Cell{Vertices: []api.Vector{{0, 0, 0}, {1, 1, 1}, {2, 2, 2}, {3, 3, 3}, {4, 4, 4}}}, api.ErrFlat}, {api.Cell{Vertices: []api.Vector{{0, 0, 0}, {0, 1, 1}, {0, 2, 2}, {0, 3, 0}}}, api.ErrFlat},
		{inserted(4, api.Vector{1, 1, 1}), api.ErrConvex}, {inserted(4, api.Vector{1, 0, 0}), api.ErrConvex}, {inserted(4, api.Vector{1, 1, 0}), api.ErrConvex}, {inserted(4, api.Vector{1, 1, 3}), api.OK},
	} {
		if e := Check(c.c); e != c.e {
			t.Errorf("%d: Check: %d, not %d", i, e, c.e)
		}
		if s, e := Of(c.c); e != c.e || e != api.OK && !Equal(s, Shape{}) {
			t.Errorf("%d: Of: %d, not %d", i, e, c.e)
		}
	}
}

// P9.2
func TestHull(t *testing.T) {
	cube := box(0, 0, 0, 2, 2, 2)
	all := slices.Concat(cube.Vertices, cube.Vertices, []api.Vector{{1, 1, 1}, {1, 0, 0}, {1, 1, 0}, {0, 2, 1}})
	slices.Reverse(all)
	if c, e := Hull(all); e != api.OK || !slices.Equal(c.Vertices, cube.Vertices) {
		t.Errorf("Hull = %v, %d", c, e)
	}
	var many, sphere []api.Vector
	for i := range 65 {
		many = append(many, api.Vector{i % 4, i / 4 % 4, i / 16})
		x := i % 17
		sphere = append(sphere, api.Vector{x, x * x, x * x * x / 2})
	}
	for i, c := range []struct {
		l []api.Vector
		e api.Errno
	}{
		{many, api.ErrLimit}, {slices.Repeat([]api.Vector{{9999, 0, 0}}, 65), api.ErrLimit}, {many[:64], api.OK}, {nil, api.ErrFlat}, {many[:16], api.ErrFlat}, {slices.Repeat(many[:2], 30), api.ErrFlat}, {[]api.Vector{{0, 0, 5000}}, api.ErrRange}, {sphere[:17], api.ErrLimit}, {sphere[:16], api.OK}, {append(sphere[:17:17], api.Vector{0, 0, -4097}), api.ErrRange},
	} {
		if h, e := Hull(c.l); e != c.e || e != api.OK && h.Vertices != nil {
			t.Errorf("%d: Hull = %v, %d, not %d", i, h, e, c.e)
		}
	}
	if c, e := Hull(many[:64]); e != api.OK || !slices.Equal(c.Vertices, box(0, 0, 0, 3, 3, 3).Vertices) {
		t.Errorf("Hull = %v, %d", c, e)
	}
}

// P9.2, P9.7: the extreme points are found again by their definition, with all directions in which one of them can be the only one.
func TestHullOfRandomPoints(t *testing.T) {
	cells, points := hulls(t, 200)
	for i, c := range cells {
		if Check(c) != api.OK || !slices.IsSortedFunc(c.Vertices, compare) {
			t.Fatalf("Hull(%v) = %v", points[i], c)
		}
		s := of(t, c)
		for _, p := range points[i] {
			if Locate(s, vector.Of(p)) == Outside {
				t.Fatalf("%v is outside of its hull %v", p, c)
			}
			if !slices.Contains(c.Vertices, p) && len(Touched(s, vector.Of(p))) > 2 {
				t.Fatalf("%v is a corner of %v", p, c)
			}
		}
		for k, v := range c.Vertices {
			if !slices.Contains(points[i], v) || len(Touched(s, vector.Of(v))) < 3 {
				t.Fatalf("%v is no vertex of %v", v, points[i])
			}
			var sum vector.Vec
			for _, f := range Touched(s, vector.Of(v)) {
				sum = vector.Add(sum, s.Faces[f].Normal)
			}
			if l := Support(s, sum); !slices.Equal(l, []int{k}) {
				t.Fatalf("%v is not extreme in %v: %d", v, c, l)
			}
		}
		if again, e := Hull(c.Vertices); e != api.OK || !slices.Equal(again.Vertices, c.Vertices) {
			t.Fatalf("Hull of %v = %v", c, again)
		}
	}
}

// P9.3
func TestOf(t *testing.T) {
	s := of(t, corner())
	if len(s.Vertices) != 4 || len(s.Faces) != 4 || len(s.Edges) != 6 {
		t.Fatalf("%d vertices, %d faces, %d edges", len(s.Vertices), len(s.Faces), len(s.Edges))
	}
	for i, want := range []struct {
		vertices       []int
		normal, offset string
	}{{[]int{0, 1, 2}, "-1 0 0", "0"}, {[]int{0, 2, 3}, "0 0 -1", "0"}, {[]int{0, 3, 1}, "0 -1 0", "0"}, {[]int{1, 3, 2}, "1 1 1", "1"}} {
		f := s.Faces[i]
		if !slices.Equal(f.Vertices, want.vertices) || text(f.Normal) != want.normal || string(f.Offset.Number()) != want.offset {
			t.Errorf("the face %d has %d, %s, %s", i, f.Vertices, text(f.Normal), f.Offset.Number())
		}
	}
	if want := []Edge{{0, 1, [2]int{0, 2}}, {0, 2, [2]int{0, 1}}, {0, 3, [2]int{1, 2}}, {1, 2, [2]int{0, 3}}, {1, 3, [2]int{2, 3}}, {2, 3, [2]int{1, 3}}}; !slices.Equal(s.Edges, want) {
		t.Errorf("the edges are %v", s.Edges)
	}
	cube := of(t, box(0, 0, 0, 2, 2, 2))
	if len(cube.Faces) != 6 || len(cube.Edges) != 12 || !slices.Equal(cube.Faces[0].Vertices, []int{0, 1, 3, 2}) || !slices.Equal(cube.Faces[5].Vertices, []int{4, 6, 7, 5}) {
		t.Errorf("the faces of a cube are %v", cube.Faces)
	}
}

// P9.3, P9.7
func TestShapesOfRandomCells(t *testing.T) {
	cells, _ := hulls(t, 150)
	for _, c := range cells {
		fixed := of(t, c)
		turned, m := moved(t, fixed)
		for _, s := range []Shape{fixed, turned} {
			if len(s.Vertices)+len(s.Faces) != len(s.Edges)+2 {
				t.Fatalf("%v: %d vertices, %d faces, %d edges", c, len(s.Vertices), len(s.Faces), len(s.Edges))
			}
			for i, f := range s.Faces {
				checkFace(t, s, i, f)
			}
			checkEdges(t, s)
			if Locate(s, Centre(s)) != Inside {
				t.Fatalf("the centre of %v is %s", c, text(Centre(s)))
			}
		}
		if rational.Compare(Volume(fixed), Volume(turned)) != 0 || !vector.Equal(motion.Apply(m, Centre(fixed)), Centre(turned)) {
			t.Fatalf("Volume, Centre of %v", c)
		}
		n := ints(3, -1, 2)
		low, high := Extent(fixed, n)
		plus := vector.Dot(motion.Turn(m, n), m.Shift)
		movedLow, movedHigh := Extent(turned, motion.Turn(m, n))
		if rational.Compare(rational.Add(low, plus), movedLow) != 0 || rational.Compare(rational.Add(high, plus), movedHigh) != 0 {
			t.Fatalf("Extent of %v", c)
		}
		if !slices.Equal(Support(fixed, n), Support(turned, motion.Turn(m, n))) {
			t.Fatalf("Support of %v", c)
		}
	}
}

func checkFace(t *testing.T, s Shape, i int, f Face) {
	t.Helper()
	if i > 0 && slices.Compare(s.Faces[i-1].Vertices, f.Vertices) >= 0 || f.Vertices[0] != slices.Min(f.Vertices) {
		t.Fatalf("the face %d is not in order: %d", i, f.Vertices)
	}
	if p, _ := vector.Primitive(f.Normal); !vector.Equal(p, f.Normal) || !slices.Equal(Support(s, f.Normal), slices.Sorted(slices.Values(f.Vertices))) {
		t.Fatalf("the face %d has the normal %s", i, text(f.Normal))
	}
	if _, high := Extent(s, f.Normal); rational.Compare(high, f.Offset) != 0 {
		t.Fatalf("the face %d has the offset %s", i, f.Offset.Number())
	}
	n := len(f.Vertices)
	for k := range n {
		a, b, c := s.Vertices[f.Vertices[k]], s.Vertices[f.Vertices[(k+1)%n]], s.Vertices[f.Vertices[(k+2)%n]]
		if vector.Det(f.Normal, vector.Sub(b, a), vector.Sub(c, b)).Sign() <= 0 {
			t.Fatalf("the face %d is not counterclockwise: %d", i, f.Vertices)
		}
	}
}

func checkEdges(t *testing.T, s Shape) {
	t.Helper()
	count := 0
	for i, e := range s.Edges {
		if e.From >= e.To || e.Faces[0] >= e.Faces[1] || i > 0 && (s.Edges[i-1].From > e.From || s.Edges[i-1].From == e.From && s.Edges[i-1].To >= e.To) {
			t.Fatalf("the edge %d is not in order: %v", i, e)
		}
		for _, k := range e.Faces {
			isSide := false
			for a, b := range sides(s.Faces[k]) {
				isSide = isSide || min(a, b) == e.From && max(a, b) == e.To
			}
			if !isSide {
				t.Fatalf("the edge %v is no side of the face %d", e, k)
			}
		}
	}
	for _, f := range s.Faces {
		count += len(f.Vertices)
	}
	if count != 2*len(s.Edges) {
		t.Fatalf("%d edges, but %d sides", len(s.Edges), count)
	}
}

// P9.3
func TestPlace(t *testing.T) {
	s := of(t, corner())
	m, _ := motion.Of(api.Placement{Turn: [4]int{1, 0, 0, 1}, Shift: api.Point{"10", "0", "1/2"}})
	p := Place(s, m)
	if text(p.Vertices[3]) != "10 1 1/2" || text(p.Faces[3].Normal) != "-1 1 1" || p.Faces[3].Offset.Number() != "-17/2" || !slices.Equal(p.Faces[3].Vertices, s.Faces[3].Vertices) || !slices.Equal(p.Edges, s.Edges) {
		t.Errorf("Place = %v", p)
	}
	p.Faces[0].Vertices[0], p.Edges[0].From = 9, 9
	if s.Faces[0].Vertices[0] != 0 || s.Edges[0].From != 0 {
		t.Error("Place has changed its argument")
	}
	if !Equal(Place(s, motion.Identity()), s) {
		t.Error("Place by the identity")
	}
	// The normal stays primitive though the turned one is not.
	m, _ = motion.Of(api.Placement{Turn: [4]int{2, 1, 0, 0}, Shift: api.Point{"0", "0", "0"}})
	if n := Place(s, m).Faces[3].Normal; text(n) != "5 -1 7" {
		t.Errorf("the normal is %s", text(n))
	}
}

// P9.4, P9.5
func TestExtentSupportLocate(t *testing.T) {
	s := of(t, box(0, 0, 0, 2, 2, 2))
	low, high := Extent(s, ints(1, 1, 0))
	if low.Number() != "0" || high.Number() != "4" || !slices.Equal(Support(s, ints(1, 1, 0)), []int{6, 7}) {
		t.Errorf("Extent = %s, %s; Support = %d", low.Number(), high.Number(), Support(s, ints(1, 1, 0)))
	}
	if low, high := Extent(s, ints(-1, 0, 0)); low.Number() != "-2" || high.Number() != "0" || !slices.Equal(Support(s, ints(0, 0, 0)), []int{0, 1, 2, 3, 4, 5, 6, 7}) {
		t.Errorf("Extent = %s, %s", low.Number(), high.Number())
	}
	for _, c := range []struct {
		p       vector.Vec
		where   int
		touched []int
	}{
		{ints(1, 1, 1), Inside, nil}, {ints(2, 1, 1), Boundary, []int{5}}, {ints(2, 2, 2), Boundary, []int{3, 4, 5}}, {ints(0, 0, 1), Boundary, []int{0, 2}}, {ints(3, 1, 1), Outside, nil}, {ints(2, 3, 1), Outside, []int{5}}, {vec(t, "1/9", "1/9", "17/9"), Inside, nil}, {vec(t, "1", "1", "19/9"), Outside, nil},
	} {
		if where, touched := Locate(s, c.p), Touched(s, c.p); where != c.where || !slices.Equal(touched, c.touched) {
			t.Errorf("%s: Locate %d, Touched %d", text(c.p), where, touched)
		}
	}
}

// P9.5
func TestDirections(t *testing.T) {
	var l []string
	for _, d := range Directions(of(t, corner())) {
		l = append(l, text(d))
	}
	if !slices.Equal(l, []string{"0 0 1", "0 1 -1", "0 1 0", "1 -1 0", "1 0 -1", "1 0 0"}) {
		t.Errorf("Directions = %s", l)
	}
	if l := Directions(of(t, box(0, 0, 0, 2, 3, 4))); len(l) != 3 || text(l[0]) != "0 0 1" {
		t.Errorf("Directions of a box = %d", len(l))
	}
	cells, _ := hulls(t, 60)
	for _, c := range cells {
		s, _ := moved(t, of(t, c))
		l := Directions(s)
		for i, d := range l {
			if i > 0 && vector.Compare(l[i-1], d) >= 0 || vector.Compare(d, vector.Vec{}) <= 0 {
				t.Fatalf("Directions of %v are not in order", c)
			}
		}
		for _, e := range s.Edges {
			if !slices.ContainsFunc(l, func(d vector.Vec) bool { return vector.Parallel(d, vector.Sub(s.Vertices[e.To], s.Vertices[e.From])) }) {
				t.Fatalf("Directions of %v lack an edge", c)
			}
		}
	}
}

// P9.6
func TestVolumeCentreEqual(t *testing.T) {
	s := of(t, corner())
	if Volume(s).Number() != "1/6" || text(Centre(s)) != "1/4 1/4 1/4" {
		t.Errorf("Volume = %s, Centre = %s", Volume(s).Number(), text(Centre(s)))
	}
	b := of(t, box(-1, 2, 3, 4, 5, 7))
	if Volume(b).Number() != "60" || text(Centre(b)) != "3/2 7/2 5" {
		t.Errorf("Volume = %s, Centre = %s", Volume(b).Number(), text(Centre(b)))
	}
	other := func(f func(*Shape)) Shape {
		x := of(t, corner())
		f(&x)
		return x
	}
	for i, x := range []Shape{b, {}, other(func(x *Shape) { x.Vertices[1] = ints(0, 0, 2) }), other(func(x *Shape) { x.Faces[1].Normal = ints(0, 0, 1) }), other(func(x *Shape) { x.Faces[1].Offset = rational.From(1) }), other(func(x *Shape) { x.Faces[1].Vertices[2] = 1 }), other(func(x *Shape) { x.Faces = x.Faces[:3] }), other(func(x *Shape) { x.Edges[2].Faces[0] = 0 }), other(func(x *Shape) { x.Edges = nil })} {
		if Equal(s, x) || Equal(x, s) {
			t.Errorf("%d: Equal", i)
		}
	}
	if !Equal(s, of(t, corner())) || !Equal(Shape{}, Shape{Vertices: []vector.Vec{}}) {
		t.Error("Equal")
	}
}

// P9.7: sums of vertices with positive weights are inside; a hull of fewer vertices has a lesser volume.
func TestConsequences(t *testing.T) {
	r := rand.New(rand.NewSource(2))
	cells, _ := hulls(t, 100)
	for _, c := range cells {
		s := of(t, c)
		var sum vector.Vec
		total := 0
		for _, v := range s.Vertices {
			weight := 1 + r.Intn(9)
			total += weight
			sum = vector.Add(sum, vector.Scale(v, rational.From(weight)))
		}
		part, _ := rational.Div(rational.From(1), rational.From(total))
		if Locate(s, vector.Scale(sum, part)) != Inside {
			t.Fatalf("a point of %v is not inside", c)
		}
		if len(c.Vertices) == 4 {
			continue
		}
		rest, e := Hull(c.Vertices[1:])
		if e == api.OK && rational.Compare(Volume(of(t, rest)), Volume(s)) >= 0 {
			t.Fatalf("a part of %v has a greater volume", c)
		}
	}
}

// Shapes that are not valid lead to no panic.
func TestInvalidShapes(t *testing.T) {
	s := Shape{Vertices: []vector.Vec{ints(1, 2, 3)}, Faces: []Face{{Vertices: []int{7, -1, 5}}, {}}, Edges: []Edge{{From: -1, To: 9}}}
	Place(s, motion.Motion{})
	Extent(Shape{}, ints(1, 0, 0))
	Support(Shape{}, ints(1, 0, 0))
	Locate(s, vector.Vec{})
	Touched(s, vector.Vec{})
	Directions(s)
	Volume(s)
	Centre(s)
	Centre(Shape{})
}

func TestArgumentsRemain(t *testing.T) {
	l := []api.Vector{{2, 0, 0}, {0, 0, 0}, {0, 2, 0}, {0, 0, 2}, {0, 0, 0}}
	before := slices.Clone(l)
	c, _ := Hull(l)
	c.Vertices[0] = api.Vector{9, 9, 9}
	d := corner()
	s := of(t, d)
	s.Faces[0].Vertices[0] = 9
	if !slices.Equal(l, before) || !slices.Equal(d.Vertices, corner().Vertices) {
		t.Error("an argument has changed")
	}
}
