package stability

import (
	"fmt"
	"math/rand"
	"slices"
	"strings"
	"testing"

	"dowel/api"
	"dowel/cone"
	"dowel/force"
	"dowel/rational"
	"dowel/vector"
)

func box(x, y, z, a, b, c int) api.Cell {
	return api.Cell{Vertices: []api.Vector{{x, y, z}, {x, y, c}, {x, b, z}, {x, b, c}, {a, y, z}, {a, y, c}, {a, b, z}, {a, b, c}}}
}

// build returns an assembly whose instances stay where the cells of their parts are.
func build(parts ...[]api.Cell) api.Assembly {
	var a api.Assembly
	for i, cells := range parts {
		name := string(rune('a' + i))
		a.Parts = append(a.Parts, api.Part{Name: name, Density: 1, Cells: cells})
		a.Instances = append(a.Instances, api.Instance{Name: name, Part: name, Place: api.Placement{Turn: [4]int{1, 0, 0, 0}, Shift: api.Point{"0", "0", "0"}}})
	}
	return a
}

func one(x, y, z, a, b, c int) []api.Cell { return []api.Cell{box(x, y, z, a, b, c)} }

func point(text string) api.Point {
	var p api.Point
	for i, word := range strings.Fields(text) {
		p[i] = api.Number(word)
	}
	return p
}

func numbers1(text string) []api.Number {
	var l []api.Number
	for word := range strings.FieldsSeq(text) {
		l = append(l, api.Number(word))
	}
	return l
}

// plate is a cube (1) on a plate (0).
func plate(gravity string, held ...int) Situation {
	return Situation{build(one(-1, -1, -1, 3, 3, 0), one(0, 0, 0, 2, 2, 2)), []int{0, 1}, held, point(gravity)}
}

// beam is a plate (0), a post (1) on it, and a beam (2) on the post, whose centre of mass lies beside it; a second post (3) stands under its other end.
func beam(there ...int) Situation {
	return Situation{build(one(0, 0, -1, 10, 2, 0), one(0, 0, 0, 1, 2, 3), one(0, 0, 3, 8, 2, 4), one(7, 0, 0, 8, 2, 3)), there, []int{0}, point("0 0 -1")}
}

func isZero(x api.Stand) bool { return !x.Stands && x.Forces == nil && x.Motion == nil }

// P32.1
func TestCheck(t *testing.T) {
	with := func(f func(*Situation)) Situation {
		s := plate("0 0 -1", 0)
		f(&s)
		return s
	}
	// Towers of steps have too many contacts.
	var parts [][]api.Cell
	for i := range 4 {
		var l []api.Cell
		for k := range 6 {
			l = append(l, box(10*k, 0, 20*i+k, 10*k+10, 10, 20*i+20+k))
		}
		parts = append(parts, l)
	}
	towers := Situation{build(parts...), []int{0, 1, 2, 3}, nil, point("0 0 -1")}
	held := towers
	held.Held = towers.There
	for i, c := range []struct {
		s Situation
		e api.Errno
	}{
		{plate("0 0 -1"), api.OK}, {plate("0 0 -1", 0, 1), api.OK}, {held, api.OK},
		{with(func(s *Situation) { s.Assembly.Instances[1].Place.Shift[2] = "-1/2"; s.There = nil }), api.ErrPenetrate}, {with(func(s *Situation) { s.Assembly.Parts[0].Density = 0; s.There = nil }), api.ErrRange}, {with(func(s *Situation) { s.There = nil; s.Held = []int{7} }), api.ErrEmpty}, {with(func(s *Situation) { s.There = []int{2} }), api.ErrRange}, {with(func(s *Situation) { s.There = []int{1, 0, 9} }), api.ErrOrder}, {with(func(s *Situation) { s.Held = []int{-1} }), api.ErrRange}, {with(func(s *Situation) { s.Held = []int{0, 0} }), api.ErrOrder}, {with(func(s *Situation) { s.There = []int{1}; s.Gravity = point("x 0 0") }), api.ErrNotFound}, {with(func(s *Situation) { s.Gravity = point("0 2/4 x") }), api.ErrForm}, {towers, api.ErrLimit},
	} {
		if e := Check(c.s); e != c.e {
			t.Errorf("%d: Check: %d, not %d", i, e, c.e)
		}
		if c.e == api.OK {
			continue
		}
		x, e1 := Prove(c.s)
		is, e2 := Stands(c.s)
		e3 := Verify(c.s, api.Stand{})
		h, found, e4 := Hands(c.s, -1)
		l, e5 := Loose(c.s)
		b, e6 := Body(c.s)
		g, e7 := Gravities(c.s)
		for k, e := range []api.Errno{e1, e2, e3, e4, e5, e6, e7} {
			if e != c.e {
				t.Errorf("%d, %d: %d, not %d", i, k, e, c.e)
			}
		}
		if !isZero(x) || is || h != nil || found || l != nil || b || !cone.Equal(g, cone.Cone{}) {
			t.Errorf("%d: the results are not zero", i)
		}
	}
}

// P32.2
func TestProveStandsVerify(t *testing.T) {
	alone := plate("0 0 -1", 0)
	alone.There = []int{1}
	alone.Held = nil
	for i, c := range []struct {
		s    Situation
		want bool
	}{{plate("0 0 -1", 0), true}, {plate("0 0 1", 0), false}, {plate("1 0 0", 0), false}, {plate("0 0 0", 0), true}, {plate("0 0 -1"), false}, {plate("0 0 -1", 0, 1), true}, {plate("0 0 5", 0, 1), true}, {plate("0 0 -1", 1), false}, {alone, false}, {beam(0, 1, 2, 3), true}, {beam(0, 1, 2), false}, {beam(0, 1, 3), true}} {
		x, e := Prove(c.s)
		is, f := Stands(c.s)
		if x.Stands != c.want || is != c.want || e != api.OK || f != api.OK || Verify(c.s, x) != api.OK {
			t.Errorf("%d: Prove = %v, %d", i, x, e)
		}
	}
	if x, _ := Prove(plate("0 0 -1", 0, 1)); !x.Stands || x.Forces != nil || x.Motion != nil {
		t.Errorf("Prove = %v", x)
	}
	for i, c := range []struct {
		s Situation
		x api.Stand
		e api.Errno
	}{
		{plate("0 0 -1", 0), api.Stand{Stands: true, Forces: numbers1("2 2 2 2")}, api.OK}, {plate("0 0 -1", 0), api.Stand{Stands: true}, api.ErrSize}, {plate("0 0 -1", 0), api.Stand{Stands: true, Forces: numbers1("2 2 2 1")}, api.ErrCertificate}, {plate("0 0 -1", 0, 1), api.Stand{Stands: true}, api.OK}, {plate("0 0 -1", 0, 1), api.Stand{}, api.ErrCertificate}, {plate("0 0 -1", 0, 1), api.Stand{Stands: true, Forces: numbers1("1")}, api.ErrCertificate}, {plate("0 0 -1", 0, 1), api.Stand{Stands: true, Motion: []api.Twist{{}}}, api.ErrCertificate},
	} {
		if e := Verify(c.s, c.x); e != c.e {
			t.Errorf("%d: Verify: %d, not %d", i, e, c.e)
		}
	}
}

// P32.3
func TestHandsAndLoose(t *testing.T) {
	beside := Situation{build(one(-1, -1, -1, 1, 3, 0), one(0, 0, 0, 4, 2, 2)), []int{0, 1}, []int{0}, point("0 0 -1")}
	for i, c := range []struct {
		s     Situation
		most  int
		hands []int
		found bool
		loose []int
	}{
		{plate("0 0 -1", 0), 3, []int{}, true, nil}, {plate("0 0 -1"), 1, []int{0}, true, []int{0}}, {plate("0 0 -1"), 0, nil, false, []int{0}}, {beside, 1, []int{1}, true, []int{1}}, {beside, 0, nil, false, []int{1}}, {plate("1 0 -1"), 1, nil, false, []int{0, 1}}, {plate("1 0 -1"), 2, []int{0, 1}, true, []int{0, 1}}, {plate("0 0 -1", 0, 1), 0, []int{}, true, nil}, {beam(0, 1, 2), 12, []int{2}, true, []int{2}}, {beam(0, 1, 2, 3), 0, []int{}, true, nil},
	} {
		h, found, e := Hands(c.s, c.most)
		if fmt.Sprint(h) != fmt.Sprint(c.hands) || found != c.found || e != api.OK {
			t.Errorf("%d: Hands = %d, %t, %d", i, h, found, e)
		}
		if l, e := Loose(c.s); !slices.Equal(l, c.loose) || e != api.OK {
			t.Errorf("%d: Loose = %d, %d", i, l, e)
		}
	}
	for _, most := range []int{-1, 13} {
		if h, found, e := Hands(plate("0 0 -1", 0), most); h != nil || found || e != api.ErrRange {
			t.Errorf("Hands: %d", e)
		}
	}
}

// P32.3: one of two posts can be held, though none of them has to be.
func TestHandsAreFirst(t *testing.T) {
	// A beam on two posts, which stand on nothing: with both posts held it stands, or if it and they are held.
	s := beam(1, 2, 3)
	s.Held = nil
	h, found, e := Hands(s, 12)
	if !slices.Equal(h, []int{1, 3}) || !found || e != api.OK {
		t.Errorf("Hands = %d, %t, %d", h, found, e)
	}
}

// P32.4
func TestFollow(t *testing.T) {
	s := beam(3)
	step := func(i int) api.Step { return api.Step{Moved: []int{i}, Direction: point("0 0 1")} }
	far := api.Kind{Blocking: api.Far}
	good := api.Plan{Kind: far, Steps: []api.Step{step(2), step(1), step(3)}}
	h, at, e := Follow(s, good, 0)
	if fmt.Sprint(h) != "[[] [] [] []]" || at != -1 || e != api.OK {
		t.Errorf("Follow = %d, %d, %d", h, at, e)
	}
	bad := api.Plan{Kind: far, Steps: []api.Step{step(3), step(2), step(1)}}
	h, at, e = Follow(s, bad, 1)
	if fmt.Sprint(h) != "[[] [2] [] []]" || at != -1 || e != api.OK {
		t.Errorf("Follow = %d, %d, %d", h, at, e)
	}
	h, at, e = Follow(s, bad, 0)
	if fmt.Sprint(h) != "[[]]" || at != 1 || e != api.OK {
		t.Errorf("Follow = %d, %d, %d", h, at, e)
	}
	// When what is held has gone, something else has to be held.
	leaves := api.Plan{Kind: far, Steps: []api.Step{step(0), step(1)}}
	h, at, e = Follow(s, leaves, 2)
	if fmt.Sprint(h) != "[[] [1 3] [2 3]]" || at != -1 || e != api.OK {
		t.Errorf("Follow = %d, %d, %d", h, at, e)
	}
	for i, c := range []struct {
		s    Situation
		p    api.Plan
		most int
		e    api.Errno
	}{
		{Situation{Assembly: s.Assembly, Held: []int{9}}, api.Plan{}, -1, api.ErrRange}, {Situation{}, api.Plan{}, -1, api.ErrEmpty}, {s, api.Plan{}, -1, api.ErrKind}, {s, api.Plan{Kind: far, Steps: []api.Step{step(7)}}, -1, api.ErrRange}, {s, api.Plan{Kind: far, Splits: []api.Split{{Whole: []int{0, 1, 2, 3}, Moved: []int{1}, Direction: point("1 0 0")}}}, -1, api.ErrKind}, {s, good, -1, api.ErrRange}, {s, good, 13, api.ErrRange},
	} {
		if h, at, e := Follow(c.s, c.p, c.most); h != nil || at != 0 || e != c.e {
			t.Errorf("%d: Follow = %d, %d, %d, not %d", i, h, at, e, c.e)
		}
	}
	if s.There[0] != 3 || len(s.There) != 1 {
		t.Error("Follow has changed its argument")
	}
}

// P32.5
func TestBodyAndGravities(t *testing.T) {
	all, _ := cone.FromRows(3, nil)
	down, _ := cone.Generate(3, nil, [][]api.Number{numbers1("0 0 -1")})
	// A cube in a corner of a box is pushed up, forward and to the left.
	corner := Situation{build([]api.Cell{box(0, 0, -1, 5, 5, 0), box(-1, 0, 0, 0, 5, 5), box(0, -1, 0, 5, 0, 5)}, one(0, 0, 0, 2, 2, 2)), []int{0, 1}, []int{0}, point("-1 -1 -1")}
	wedge, _ := cone.Generate(3, nil, [][]api.Number{numbers1("-1 0 0"), numbers1("0 -1 0"), numbers1("0 0 -1")})
	tower := Situation{build(one(-1, -1, -1, 3, 3, 0), one(0, 0, 0, 2, 2, 2), one(1, 0, 2, 5, 2, 3)), []int{0, 1, 2}, []int{0}, point("0 0 -1")}
	for i, c := range []struct {
		s    Situation
		want cone.Cone
		is   bool
	}{{plate("0 0 -1", 0), down, true}, {plate("0 0 1", 0), down, false}, {plate("1 0 -1", 0), down, false}, {plate("0 0 0", 0), down, true}, {plate("0 0 1", 0, 1), all, true}, {plate("0 0 -1"), cone.Cone{Dim: 3}, false}, {corner, wedge, true},
		// The upper box would fall, but as one body with the lower one it stands.
		{tower, down, true}} {
		g, e := Gravities(c.s)
		if !cone.Equal(g, c.want) || e != api.OK {
			t.Errorf("%d: Gravities = %v, %d", i, g, e)
		}
		if is, e := Body(c.s); is != c.is || e != api.OK {
			t.Errorf("%d: Body = %t, %d", i, is, e)
		}
	}
	if is, _ := Stands(tower); is {
		t.Error("the tower stands")
	}
}

// random returns a situation of some boxes on a plate, some of which are held.
func random(r *rand.Rand) Situation {
	x := r.Intn(4)
	a := build(one(-5, -5, -1, 5, 5, 0), one(0, 0, 0, 2, 2, 1+r.Intn(2)), one(x-1, 0, 2, x+2, 2, 3), one(2, 0, 0, 3, 2, 2))
	s := Situation{a, []int{0, 1, 2, 3}, nil, point([]string{"0 0 -1", "1 0 -3", "0 1/2 -1", "-1 0 -1"}[r.Intn(4)])}
	for i := range 4 {
		if r.Intn(3) == 0 {
			s.Held = append(s.Held, i)
		}
	}
	return s
}

// P32.6
func TestConsequences(t *testing.T) {
	r := rand.New(rand.NewSource(1))
	stands := map[bool]int{}
	for range 60 {
		s := random(r)
		is, e := Stands(s)
		if e != api.OK {
			t.Fatal(e)
		}
		stands[is]++
		body, _ := Body(s)
		cones, e := Gravities(s)
		if inside, _ := cone.Contains(cones, s.Gravity[:]); e != api.OK || inside != body {
			t.Fatalf("Body = %t, but the cone is %v, %d", body, cones, e)
		}
		if is && !body || len(s.free()) == 1 && is != body {
			t.Fatalf("Stands = %t, Body = %t", is, body)
		}
		heavy, still := s, s
		v, _ := vector.Read(s.Gravity)
		heavy.Gravity, still.Gravity = vector.Scale(v, rational.From(3)).Point(), point("0 0 0")
		if x, _ := Stands(heavy); x != is {
			t.Fatal("three times the gravity changes whether it stands")
		}
		if x, _ := Stands(still); !x {
			t.Fatal("without gravity it falls")
		}
		checkHands(t, s, is)
	}
	if stands[true] < 4 || stands[false] < 10 {
		t.Errorf("%v", stands)
	}
}

// checkHands compares the hands with all lists of instances.
func checkHands(t *testing.T, s Situation, stands bool) {
	t.Helper()
	h, found, e := Hands(s, 12)
	loose, _ := Loose(s)
	if !found || e != api.OK || stands != (len(h) == 0) {
		t.Fatalf("Hands = %d, %t, %d", h, found, e)
	}
	for _, i := range loose {
		if !slices.Contains(h, i) {
			t.Fatalf("Hands = %d lacks %d", h, i)
		}
	}
	for l := range lists(s.free(), 4) {
		held := s
		held.Held = slices.Sorted(slices.Values(slices.Concat(s.Held, l)))
		is, e := Stands(held)
		if e != api.OK {
			t.Fatal(e)
		}
		if slices.Equal(l, h) {
			if !is {
				t.Fatalf("with the hands %d it falls", h)
			}
			break
		}
		if is {
			t.Fatalf("Hands = %d, but it stands with %d", h, l)
		}
	}
}

func TestProofsAreThoseOfForces(t *testing.T) {
	s := plate("0 0 -1", 0)
	x, _ := Prove(s)
	if e := force.Verify(force.System{Assembly: s.Assembly, Free: []int{1}, Held: []int{0}, Gravity: s.Gravity}, x); e != api.OK {
		t.Errorf("Verify: %d", e)
	}
}
