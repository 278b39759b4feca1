package meeting

import (
	"math/rand"
	"slices"
	"testing"

	"dowel/api"
	"dowel/cell"
	"dowel/cone"
	"dowel/motion"
	"dowel/rational"
	"dowel/vector"
)

func shape(t *testing.T, l []api.Vector) cell.Shape {
	t.Helper()
	c, e := cell.Hull(l)
	if e != api.OK {
		t.Fatalf("Hull: %d", e)
	}
	s, e := cell.Of(c)
	if e != api.OK {
		t.Fatalf("Of: %d", e)
	}
	return s
}

func box(t *testing.T, x, y, z, a, b, c int) cell.Shape {
	t.Helper()
	return shape(t, []api.Vector{{x, y, z}, {x, y, c}, {x, b, z}, {x, b, c}, {a, y, z}, {a, y, c}, {a, b, z}, {a, b, c}})
}

func place(t *testing.T, s cell.Shape, turn [4]int, x, y, z api.Number) cell.Shape {
	t.Helper()
	m, e := motion.Of(api.Placement{Turn: turn, Shift: api.Point{x, y, z}})
	if e != api.OK {
		t.Fatal(e)
	}
	return cell.Place(s, m)
}

func shift(s cell.Shape, v vector.Vec) cell.Shape {
	m := motion.Identity()
	m.Shift = v
	return cell.Place(s, m)
}

func ints(x, y, z int) vector.Vec { return vector.Of(api.Vector{x, y, z}) }

func text(l ...vector.Vec) string {
	s := ""
	for _, v := range l {
		p := v.Point()
		s += string("(" + p[0] + " " + p[1] + " " + p[2] + ")")
	}
	return s
}

func half(t *testing.T) rational.Rat {
	a, e := rational.Parse("1/2")
	if e != api.OK {
		t.Fatal(e)
	}
	return a
}

// pairs yields pairs of random shapes that are near one another, some of them turned.
func pairs(t *testing.T, seed int64, count int) func(func(a, b cell.Shape) bool) {
	r := rand.New(rand.NewSource(seed))
	random := func() cell.Shape {
		for {
			var l []api.Vector
			for range 4 + r.Intn(6) {
				l = append(l, api.Vector{r.Intn(5), r.Intn(5), r.Intn(5)})
			}
			if c, e := cell.Hull(l); e == api.OK {
				s, _ := cell.Of(c)
				return s
			}
		}
	}
	return func(yield func(a, b cell.Shape) bool) {
		for range count {
			turn := [][4]int{{1, 0, 0, 0}, {1, 0, 0, 1}, {2, 1, 0, 0}}[r.Intn(3)]
			b := place(t, random(), turn, rational.From(r.Intn(9)-3).Number(), rational.From(r.Intn(5)-1).Number(), rational.From(r.Intn(5)-2).Number())
			if !yield(random(), b) {
				return
			}
		}
	}
}

// P12.1
func TestAxes(t *testing.T) {
	a, b := box(t, 0, 0, 0, 1, 1, 1), box(t, 1, 0, 0, 2, 1, 1)
	if got := text(Axes(a, b)...); got != "(-1 0 0)(0 -1 0)(0 0 -1)(0 0 1)(0 1 0)(1 0 0)" {
		t.Errorf("Axes = %s", got)
	}
	turned := place(t, b, [4]int{3, 0, 0, 1}, "0", "0", "0")
	if got := text(Axes(a, turned)...); got != "(-4 -3 0)(-3 4 0)(-1 0 0)(0 -1 0)(0 0 -1)(0 0 1)(0 1 0)(1 0 0)(3 -4 0)(4 3 0)" {
		t.Errorf("Axes = %s", got)
	}
	corner := shape(t, []api.Vector{{0, 0, 0}, {1, 0, 0}, {0, 1, 0}, {0, 0, 1}})
	// The normals of faces, and the products of 1 -1 0 and the others with the axes.
	if got := text(Axes(a, corner)...); got != "(-1 -1 -1)(-1 -1 0)(-1 0 -1)(-1 0 0)(0 -1 -1)(0 -1 0)(0 0 -1)(0 0 1)(0 1 0)(0 1 1)(1 0 0)(1 0 1)(1 1 0)(1 1 1)" {
		t.Errorf("Axes = %s", got)
	}
	for a, b := range pairs(t, 1, 20) {
		l := Axes(a, b)
		back := Axes(b, a)
		if !slices.EqualFunc(l, back, vector.Equal) || !slices.IsSortedFunc(l, vector.Compare) {
			t.Fatal("the axes depend on the order of the shapes, or are in none")
		}
		for i, n := range l {
			if p, _ := vector.Primitive(n); !vector.Equal(p, n) || !vector.Equal(l[len(l)-1-i], vector.Neg(n)) || i > 0 && vector.Equal(l[i-1], n) {
				t.Fatalf("the axis %s", text(n))
			}
		}
	}
}

// P12.1
func TestStatusAndNormals(t *testing.T) {
	a := box(t, 0, 0, 0, 1, 1, 1)
	for i, c := range []struct {
		b       cell.Shape
		status  int
		normals string
	}{
		{box(t, 1, 0, 0, 2, 1, 1), api.Touching, "(1 0 0)"}, {box(t, 1, 1, 0, 2, 2, 1), api.Touching, "(0 1 0)(1 0 0)"}, {box(t, 1, 1, 1, 2, 2, 2), api.Touching, "(0 0 1)(0 1 0)(1 0 0)"}, {box(t, -1, 0, 0, 0, 1, 1), api.Touching, "(-1 0 0)"}, {box(t, 2, 0, 0, 3, 1, 1), api.Apart, ""}, {a, api.Meeting, ""}, {box(t, -1, -1, -1, 2, 2, 2), api.Meeting, ""}, {box(t, 1, 2, 0, 2, 3, 1), api.Apart, ""},
	} {
		if status, normals := Status(a, c.b), text(Normals(a, c.b)...); status != c.status || normals != c.normals {
			t.Errorf("%d: Status %d, Normals %s", i, status, normals)
		}
		if Status(c.b, a) != c.status {
			t.Errorf("%d: Status of the exchanged shapes is %d", i, Status(c.b, a))
		}
	}
	// A vertex against a face has the normal of the face.
	if got := text(Normals(box(t, 0, 0, 0, 2, 2, 2), shape(t, []api.Vector{{2, 1, 1}, {3, 1, 2}, {3, 2, 1}, {4, 1, 1}}))...); got != "(1 0 0)" {
		t.Errorf("Normals of a vertex against a face = %s", got)
	}
	// Edges that cross one another have the normal that is perpendicular to both.
	x := shape(t, []api.Vector{{-4, 0, 0}, {0, -4, -4}, {0, 4, -4}, {4, 0, 0}})
	y := shape(t, []api.Vector{{-4, 0, 4}, {0, -4, 0}, {0, 4, 0}, {4, 0, 4}})
	if got := text(Normals(x, y)...); got != "(0 0 1)" {
		t.Errorf("Normals of crossing edges = %s", got)
	}
}

// P12.2
func TestProveAndVerify(t *testing.T) {
	a := box(t, 0, 0, 0, 1, 1, 1)
	apart, touching, meets := box(t, 2, 0, 0, 3, 1, 1), box(t, 1, 0, 0, 2, 1, 1), place(t, a, [4]int{1, 0, 0, 0}, "1/2", "0", "0")
	none := api.Point{}
	if s := Prove(a, apart); s.Kind != api.Apart || s.Plane != (api.Plane{Normal: api.Point{"1", "0", "0"}, Offset: "3/2"}) || s.Point != none {
		t.Errorf("Prove = %v", s)
	}
	if s := Prove(a, touching); s.Kind != api.Touching || s.Plane != (api.Plane{Normal: api.Point{"1", "0", "0"}, Offset: "1"}) || Verify(a, touching, s) != api.OK {
		t.Errorf("Prove = %v", s)
	}
	if s := Prove(a, meets); s.Kind != api.Meeting || s.Plane != (api.Plane{}) || Verify(a, meets, s) != api.OK {
		t.Errorf("Prove = %v", s)
	}
	plane := func(x, y, z, offset api.Number) api.Plane {
		return api.Plane{Normal: api.Point{x, y, z}, Offset: offset}
	}
	for i, c := range []struct {
		b  cell.Shape
		s  api.Separation
		ok bool
	}{
		{apart, api.Separation{Kind: api.Apart, Plane: plane("1", "0", "0", "5/4")}, true}, {apart, api.Separation{Kind: api.Apart, Plane: plane("2", "0", "0", "3")}, true}, {apart, api.Separation{Kind: api.Apart, Plane: plane("1", "0", "0", "1")}, false}, {apart, api.Separation{Kind: api.Apart, Plane: plane("1", "0", "0", "2")}, false}, {apart, api.Separation{Kind: api.Apart, Plane: plane("-1", "0", "0", "-3/2")}, false}, {apart, api.Separation{Kind: api.Apart, Plane: plane("0", "0", "0", "0")}, false},
		{apart, api.Separation{Kind: api.Apart, Plane: plane("1", "0", "0", "3/2"), Point: api.Point{"1", "1", "1"}}, false}, {apart, api.Separation{Kind: api.Apart, Plane: plane("1", "0", "0", "6/4")}, false}, {apart, api.Separation{Kind: api.Apart, Plane: plane("1", "0", "00", "3/2")}, false}, {apart, api.Separation{Kind: 0, Plane: plane("1", "0", "0", "3/2")}, false}, {apart, api.Separation{Kind: 4}, false},
		{apart, api.Separation{Kind: api.Touching, Plane: plane("1", "0", "0", "3/2"), Point: api.Point{"1", "0", "0"}}, false}, {apart, api.Separation{Kind: api.Meeting, Point: api.Point{"1", "0", "0"}}, false},
		{touching, api.Separation{Kind: api.Touching, Plane: plane("3", "0", "0", "3"), Point: api.Point{"1", "1/2", "1"}}, true}, {touching, api.Separation{Kind: api.Touching, Plane: plane("1", "0", "0", "1"), Point: api.Point{"1", "2", "1"}}, false}, {touching, api.Separation{Kind: api.Touching, Plane: plane("0", "0", "0", "0"), Point: api.Point{"1", "1/2", "1"}}, false}, {touching, api.Separation{Kind: api.Touching, Plane: plane("0", "1", "0", "0"), Point: api.Point{"1", "1/2", "1"}}, false}, {touching, api.Separation{Kind: api.Touching, Plane: plane("1", "0", "0", "1"), Point: api.Point{"1", "2/4", "1"}}, false}, {touching, api.Separation{Kind: api.Touching, Plane: plane("1", "0", "0", "1"), Point: none}, false}, {touching, api.Separation{Kind: api.Touching, Plane: plane("1", "0", "0", ""), Point: api.Point{"1", "1/2", "1"}}, false}, {touching, api.Separation{Kind: api.Apart, Plane: plane("1", "0", "0", "1")}, false},
		{meets, api.Separation{Kind: api.Meeting, Point: api.Point{"3/4", "1/9", "1/2"}}, true}, {meets, api.Separation{Kind: api.Meeting, Point: api.Point{"1/2", "1/9", "1/2"}}, false}, {meets, api.Separation{Kind: api.Meeting, Point: api.Point{"3/4", "0", "1/2"}}, false}, {meets, api.Separation{Kind: api.Meeting, Plane: plane("1", "0", "0", "1"), Point: api.Point{"3/4", "1/9", "1/2"}}, false}, {meets, api.Separation{Kind: api.Meeting, Plane: api.Plane{Offset: "0"}, Point: api.Point{"3/4", "1/9", "1/2"}}, false}, {meets, api.Separation{Kind: api.Meeting, Point: none}, false}, {meets, api.Separation{}, false},
	} {
		want := api.ErrCertificate
		if c.ok {
			want = api.OK
		}
		if e := Verify(a, c.b, c.s); e != want {
			t.Errorf("%d: Verify: %d, not %d", i, e, want)
		}
	}
}

// P12.3
func TestInterval(t *testing.T) {
	a, b := box(t, 0, 0, 0, 1, 1, 1), box(t, 1, 0, 0, 2, 1, 1)
	far := box(t, 3, 0, 0, 4, 1, 1)
	for i, c := range []struct {
		b             cell.Shape
		d             vector.Vec
		low, high     api.Number
		meets         bool
		isFar, isNear bool
	}{
		{b, ints(1, 0, 0), "0", "2", true, true, true}, {b, ints(1, 1, 0), "0", "1", true, true, true}, {b, ints(0, 1, 0), "0", "0", false, false, false}, {b, ints(-1, 0, 0), "-2", "0", true, false, false}, {far, ints(1, 0, 0), "2", "4", true, true, false}, {far, ints(-1, 0, 0), "-4", "-2", true, false, false}, {far, ints(-2, 0, 0), "-2", "-1", true, false, false}, {far, ints(3, 1, 0), "2/3", "1", true, true, false}, {far, ints(2, 1, 0), "0", "0", false, false, false}, {a, ints(1, 0, 0), "-1", "1", true, true, true}, {a, ints(0, 0, -2), "-1/2", "1/2", true, true, true},
	} {
		low, high, meets, e := Interval(a, c.b, c.d)
		if low.Number() != c.low || high.Number() != c.high || meets != c.meets || e != api.OK {
			t.Errorf("%d: Interval = %s, %s, %t, %d", i, low.Number(), high.Number(), meets, e)
		}
		isFar, e1 := Far(a, c.b, c.d)
		isNear, e2 := Local(a, c.b, c.d)
		if isFar != c.isFar || isNear != c.isNear || e1 != api.OK || e2 != api.OK {
			t.Errorf("%d: Far %t, Local %t", i, isFar, isNear)
		}
	}
	low, high, meets, e := Interval(a, b, vector.Vec{})
	isFar, e1 := Far(a, b, vector.Vec{})
	isNear, e2 := Local(a, b, vector.Vec{})
	if low.Sign() != 0 || high.Sign() != 0 || meets || isFar || isNear || e != api.ErrZero || e1 != api.ErrZero || e2 != api.ErrZero {
		t.Error("the direction 0")
	}
}

// P12.4
func TestCones(t *testing.T) {
	a := box(t, 0, 0, 0, 1, 1, 1)
	c, e := FarCone(a, box(t, 2, 0, 0, 3, 1, 1))
	if want, _ := cone.Generate(3, nil, [][]api.Number{{"1", "-1", "-1"}, {"1", "-1", "1"}, {"1", "1", "-1"}, {"1", "1", "1"}}); !cone.Equal(c, want) || e != api.OK {
		t.Errorf("FarCone = %v, %d", c, e)
	}
	if c, e := FarCone(a, a); !cone.Equal(c, cone.Cone{}) || e != api.ErrPenetrate {
		t.Errorf("FarCone = %v, %d", c, e)
	}
	c, touches, e := LocalCone(a, box(t, 1, 1, 0, 2, 2, 1))
	if want, _ := cone.FromRows(3, [][]api.Number{{"-1", "0", "0"}, {"0", "-1", "0"}}); !cone.Equal(c, want) || !touches || e != api.OK {
		t.Errorf("LocalCone = %v, %t, %d", c, touches, e)
	}
	for _, b := range []cell.Shape{a, box(t, 2, 0, 0, 3, 1, 1)} {
		if c, touches, e := LocalCone(a, b); !cone.Equal(c, cone.Cone{}) || touches || e != api.OK {
			t.Errorf("LocalCone = %v, %t, %d", c, touches, e)
		}
	}
}

// round returns a pyramid with the tip 0 and 13 corners around its axis.
func round(t *testing.T, height, from int) cell.Shape {
	t.Helper()
	l := []api.Vector{{0, 0, 0}}
	for _, v := range [][2]int{{100, 0}, {89, 46}, {57, 82}, {12, 99}, {-35, 94}, {-75, 66}, {-97, 24}, {-97, -24}, {-75, -66}, {-35, -94}, {12, -99}, {57, -82}, {89, -46}} {
		l = append(l, api.Vector{v[0] + from, v[1] - 2*from, height})
	}
	return shape(t, l)
}

// Two tips that touch have the normals of all their faces, and many of their edges.
func TestTooManyNormals(t *testing.T) {
	c, touches, e := LocalCone(round(t, 500, 1), round(t, -499, 0))
	if !cone.Equal(c, cone.Cone{}) || touches || e != api.ErrLimit {
		t.Errorf("LocalCone = %t, %d with %d normals", touches, e, len(Normals(round(t, 500, 1), round(t, -499, 0))))
	}
}

// P12.5
func TestCommon(t *testing.T) {
	a := box(t, 0, 0, 0, 1, 1, 1)
	for i, c := range []struct {
		b    cell.Shape
		want string
	}{
		{box(t, 1, 0, 0, 2, 1, 1), "(1 0 0)(1 0 1)(1 1 0)(1 1 1)"}, {box(t, 2, 0, 0, 3, 1, 1), ""}, {box(t, 1, 1, 1, 2, 2, 2), "(1 1 1)"}, {box(t, 1, 1, -1, 2, 2, 3), "(1 1 0)(1 1 1)"}, {a, "(0 0 0)(0 0 1)(0 1 0)(0 1 1)(1 0 0)(1 0 1)(1 1 0)(1 1 1)"},
		{place(t, a, [4]int{1, 0, 0, 0}, "1/2", "1/2", "1/2"), "(1/2 1/2 1/2)(1/2 1/2 1)(1/2 1 1/2)(1/2 1 1)(1 1/2 1/2)(1 1/2 1)(1 1 1/2)(1 1 1)"},
		{shape(t, []api.Vector{{1, 0, 0}, {2, 0, 1}, {2, 1, 0}, {3, 0, 0}}), "(1 0 0)"},
	} {
		if got, back := text(Common(a, c.b)...), text(Common(c.b, a)...); got != c.want || back != c.want {
			t.Errorf("%d: Common = %s, %s", i, got, back)
		}
	}
	x := shape(t, []api.Vector{{-4, 0, 0}, {0, -4, -4}, {0, 4, -4}, {4, 0, 0}})
	y := shape(t, []api.Vector{{-4, 0, 4}, {0, -4, 0}, {0, 4, 0}, {4, 0, 4}})
	if got := text(Common(x, y)...); got != "(0 0 0)" {
		t.Errorf("Common of crossing edges = %s", got)
	}
}

// P12.5: the points are extreme, and belong to both; no point of a grid that belongs to both lies beyond them.
func TestCommonOfRandomShapes(t *testing.T) {
	for a, b := range pairs(t, 2, 60) {
		l := Common(a, b)
		if (len(l) == 0) != (Status(a, b) == api.Apart) || !slices.IsSortedFunc(l, vector.Compare) {
			t.Fatalf("Common = %s, but the status is %d", text(l...), Status(a, b))
		}
		for _, p := range l {
			if cell.Locate(a, p) == cell.Outside || cell.Locate(b, p) == cell.Outside {
				t.Fatalf("%s does not belong to both", text(p))
			}
			var outward vector.Vec
			for _, s := range []cell.Shape{a, b} {
				for _, f := range cell.Touched(s, p) {
					outward = vector.Add(outward, s.Faces[f].Normal)
				}
			}
			for _, q := range l {
				if !vector.Equal(p, q) && rational.Compare(vector.Dot(outward, q), vector.Dot(outward, p)) >= 0 {
					t.Fatalf("%s is not extreme: %s", text(p), text(q))
				}
			}
		}
		for i := range 125 {
			p := vector.Scale(ints(i%5*2+1, i/5%5*2+1, i/25*2+1), half(t))
			if cell.Locate(a, p) == cell.Outside || cell.Locate(b, p) == cell.Outside {
				continue
			}
			for _, n := range Axes(a, b) {
				isBeyond := !slices.ContainsFunc(l, func(q vector.Vec) bool { return rational.Compare(vector.Dot(n, q), vector.Dot(n, p)) >= 0 })
				if isBeyond {
					t.Fatalf("%s lies beyond %s", text(p), text(l...))
				}
			}
		}
	}
}

// P12.2, P12.4, P12.6
func TestConsequences(t *testing.T) {
	r := rand.New(rand.NewSource(3))
	kinds := map[int]int{}
	for a, b := range pairs(t, 4, 120) {
		status := Status(a, b)
		kinds[status]++
		s := Prove(a, b)
		if s.Kind != status || Verify(a, b, s) != api.OK {
			t.Fatalf("Prove = %v, but the status is %d", s, status)
		}
		for kind := 1; kind <= 3; kind++ {
			x := s
			x.Kind = kind
			if kind != status && Verify(a, b, x) == api.OK {
				t.Fatalf("%v is accepted, but the status is %d", x, status)
			}
		}
		var negatives []vector.Vec
		for _, n := range Normals(b, a) {
			negatives = append([]vector.Vec{vector.Neg(n)}, negatives...)
		}
		if normals := Normals(a, b); !slices.EqualFunc(normals, negatives, vector.Equal) || (len(normals) > 0) != (status == api.Touching) {
			t.Fatalf("the normals are %s, and back %s", text(normals...), text(negatives...))
		}
		d := ints(r.Intn(5)-2, r.Intn(5)-2, 1)
		checkInterval(t, a, b, d)
		checkCones(t, a, b, d, status)
	}
	if len(kinds) < 3 {
		t.Errorf("the kinds are %v", kinds)
	}
}

func checkInterval(t *testing.T, a, b cell.Shape, d vector.Vec) {
	t.Helper()
	low, high, meets, _ := Interval(a, b, d)
	back, back2, meetsBack, _ := Interval(b, a, d)
	if meetsBack != meets || rational.Compare(back, rational.Neg(high)) != 0 || rational.Compare(back2, rational.Neg(low)) != 0 {
		t.Fatalf("the exchanged shapes have the interval %s, %s", back.Number(), back2.Number())
	}
	turn := [4]int{1, 2, 0, -1}
	m, _ := motion.Of(api.Placement{Turn: turn, Shift: api.Point{"1/3", "0", "-5"}})
	x, y, is, _ := Interval(cell.Place(a, m), cell.Place(b, m), motion.Turn(m, d))
	if is != meets || rational.Compare(x, low) != 0 || rational.Compare(y, high) != 0 || Status(cell.Place(a, m), cell.Place(b, m)) != Status(a, b) {
		t.Fatalf("the turned shapes have the interval %s, %s", x.Number(), y.Number())
	}
	k := rational.From(-3)
	x, y, is, _ = Interval(a, b, vector.Scale(d, k))
	if is != meets || rational.Compare(rational.Mul(x, k), high) != 0 || rational.Compare(rational.Mul(y, k), low) != 0 {
		t.Fatalf("-3 times the direction has the interval %s, %s", x.Number(), y.Number())
	}
	if !meets {
		return
	}
	x, y, _, _ = Interval(shift(a, vector.Scale(d, half(t))), b, d)
	if rational.Compare(rational.Add(x, half(t)), low) != 0 || rational.Compare(rational.Add(y, half(t)), high) != 0 {
		t.Fatalf("behind a translation the interval is %s, %s", x.Number(), y.Number())
	}
	middle := rational.Mul(rational.Add(low, high), half(t))
	for time, want := range map[rational.Rat]int{low: api.Touching, high: api.Touching, middle: api.Meeting, rational.Add(high, half(t)): api.Apart} {
		if got := Status(shift(a, vector.Scale(d, time)), b); got != want {
			t.Fatalf("at %s the status is %d", time.Number(), got)
		}
	}
}

func checkCones(t *testing.T, a, b cell.Shape, d vector.Vec, status int) {
	t.Helper()
	p := d.Point()
	isFar, _ := Far(a, b, d)
	isNear, _ := Local(a, b, d)
	isBack, _ := Far(a, b, vector.Neg(d))
	if isNear && !isFar || status != api.Meeting && isFar && isBack {
		t.Fatalf("Far %t, Local %t, and back Far %t", isFar, isNear, isBack)
	}
	c, e := FarCone(a, b)
	if (e == api.ErrPenetrate) != (status == api.Meeting) {
		t.Fatalf("FarCone: %d", e)
	}
	if e == api.OK {
		if is, _ := cone.Interior(c, p[:]); is != isFar {
			t.Fatalf("%s is blocked Far: %t", text(d), isFar)
		}
	}
	c, touches, e := LocalCone(a, b)
	if touches != (status == api.Touching) || e != api.OK {
		t.Fatalf("LocalCone: %t, %d", touches, e)
	}
	if touches {
		if is, _ := cone.Interior(c, p[:]); is != isNear {
			t.Fatalf("%s is blocked Local: %t", text(d), isNear)
		}
	}
}

// Shapes that are not valid lead to no panic.
func TestInvalidShapes(t *testing.T) {
	s := cell.Shape{Vertices: []vector.Vec{ints(1, 1, 1)}, Edges: []cell.Edge{{From: -1, To: 7}}, Faces: []cell.Face{{Normal: ints(1, 0, 0), Vertices: []int{5}}}}
	a := box(t, 0, 0, 0, 1, 1, 1)
	for _, b := range []cell.Shape{s, {}} {
		for _, l := range [][2]cell.Shape{{a, b}, {b, a}, {b, b}} {
			Axes(l[0], l[1])
			Status(l[0], l[1])
			Normals(l[0], l[1])
			Prove(l[0], l[1])
			Verify(l[0], l[1], api.Separation{Kind: api.Touching, Plane: api.Plane{Normal: api.Point{"1", "0", "0"}, Offset: "1"}, Point: api.Point{"1", "1", "1"}})
			Interval(l[0], l[1], ints(1, 0, 0))
			FarCone(l[0], l[1])
			LocalCone(l[0], l[1])
			Common(l[0], l[1])
		}
	}
}
