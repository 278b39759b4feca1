package force

import (
	"math/rand"
	"slices"
	"strings"
	"testing"

	"dowel/api"
	"dowel/assembly"
	"dowel/motion"
	"dowel/rational"
	"dowel/twist"
	"dowel/vector"
)

func box(x, y, z, a, b, c int) api.Cell {
	return api.Cell{Vertices: []api.Vector{{x, y, z}, {x, y, c}, {x, b, z}, {x, b, c}, {a, y, z}, {a, y, c}, {a, b, z}, {a, b, c}}}
}

// build returns an assembly whose instances stay where the cells of their parts are.
func build(parts ...[]api.Cell) api.Assembly {
	var a api.Assembly
	for i, cells := range parts {
		name := string(rune('a' + i))
		a.Parts = append(a.Parts, api.Part{Name: name, Density: 1, Cells: cells})
		a.Instances = append(a.Instances, api.Instance{Name: name, Part: name, Place: api.Placement{Turn: [4]int{1, 0, 0, 0}, Shift: api.Point{"0", "0", "0"}}})
	}
	return a
}

func one(x, y, z, a, b, c int) []api.Cell { return []api.Cell{box(x, y, z, a, b, c)} }

func point(text string) api.Point {
	var p api.Point
	for i, word := range strings.Fields(text) {
		p[i] = api.Number(word)
	}
	return p
}

func numbers(text string) []api.Number {
	var l []api.Number
	for word := range strings.FieldsSeq(text) {
		l = append(l, api.Number(word))
	}
	return l
}

func twist1(text string) api.Twist { return api.Twist(numbers(text)) }

// cube is a cube (0) that stands on a plate (1), which is held.
func cube(gravity string, supports ...Support) System {
	return System{build(one(0, 0, 0, 2, 2, 2), one(-5, -5, -1, 5, 5, 0)), []int{0}, []int{1}, supports, point(gravity)}
}

// tower is two cubes, one on the other, on a plate (0).
func tower(gravity string) System {
	return System{build(one(-5, -5, -1, 5, 5, 0), one(0, 0, 0, 2, 2, 2), one(0, 0, 2, 2, 2, 4)), []int{1, 2}, []int{0}, nil, point(gravity)}
}

func support(instance int, at, normal string) Support {
	return Support{instance, point(at), point(normal)}
}

func isZero(x api.Stand) bool { return !x.Stands && x.Forces == nil && x.Motion == nil }

// P31.1
func TestCheck(t *testing.T) {
	good := cube("0 0 -1")
	with := func(f func(*System)) System {
		s := cube("0 0 -1")
		f(&s)
		return s
	}
	many := func(count int) []Support { return slices.Repeat([]Support{support(0, "1 1 0", "0 0 -1")}, count) }
	// Steps on steps have many contacts: 11 of 4 points each between two towers.
	var parts [][]api.Cell
	for i := range 4 {
		var l []api.Cell
		for k := range 6 {
			l = append(l, box(10*k, 0, 20*i+k, 10*k+10, 10, 20*i+20+k))
		}
		parts = append(parts, l)
	}
	towers := System{Assembly: build(parts...), Free: []int{0, 1, 2, 3}, Gravity: point("0 0 -1")}
	three := towers
	three.Free, three.Held = []int{0, 1}, []int{2}
	// Twelve free instances leave room for 112 rows, but here are fewer.
	var singles [][]api.Cell
	for i := range 12 {
		singles = append(singles, one(3*i, 0, 0, 3*i+1, 1, 1))
	}
	for i, c := range []struct {
		s System
		e api.Errno
	}{
		{good, api.OK}, {with(func(s *System) { s.Held = nil }), api.OK}, {with(func(s *System) { s.Supports = many(24) }), api.OK}, {with(func(s *System) { s.Free, s.Held = []int{0, 1}, nil }), api.OK}, {three, api.OK}, {System{Assembly: build(singles...), Free: []int{0, 1, 2, 3, 4, 5, 6, 7, 8, 9, 10, 11}, Gravity: point("0 0 1")}, api.OK},
		{with(func(s *System) { s.Assembly.Instances[0].Place.Shift[2] = "-1/2"; s.Free = nil }), api.ErrPenetrate}, {with(func(s *System) { s.Assembly.Instances[0].Part = ""; s.Free = nil }), api.ErrUnknown}, {with(func(s *System) { s.Free = nil; s.Held = []int{9} }), api.ErrEmpty}, {with(func(s *System) { s.Free = []int{2} }), api.ErrRange}, {with(func(s *System) { s.Free = []int{1, 0} }), api.ErrOrder}, {with(func(s *System) { s.Held = []int{-1} }), api.ErrRange}, {with(func(s *System) { s.Held = []int{1, 1}; s.Supports = many(25) }), api.ErrOrder}, {with(func(s *System) { s.Held = []int{0}; s.Supports = many(25) }), api.ErrConflict}, {with(func(s *System) { s.Supports = make([]Support, 25) }), api.ErrLimit},
		{with(func(s *System) { s.Supports = []Support{support(1, "x 0 0", "0 0 0")} }), api.ErrNotFound}, {with(func(s *System) { s.Supports = []Support{support(0, "x 0 0", "1/0 0 0")} }), api.ErrSyntax}, {with(func(s *System) { s.Supports = []Support{support(0, "0 0 0", "1/0 0 0"), support(1, "", "")} }), api.ErrZero}, {with(func(s *System) { s.Supports = []Support{support(0, "0 0 0", "0 2/4 0")} }), api.ErrForm}, {with(func(s *System) { s.Supports = []Support{support(0, "0 0 0", "0 0 0")}; s.Gravity = api.Point{} }), api.ErrZero}, {with(func(s *System) { s.Gravity[1] = "01" }), api.ErrForm}, {towers, api.ErrLimit}, {with(func(s *System) { s.Gravity = point("x 0 0"); s.Supports = many(24) }), api.ErrSyntax},
	} {
		if e := Check(c.s); e != c.e {
			t.Errorf("%d: Check: %d, not %d", i, e, c.e)
		}
		if c.e == api.OK {
			continue
		}
		f, e1 := Forces(c.s)
		w, e2 := Weights(c.s)
		x, e3 := Balance(c.s)
		e4 := Verify(c.s, api.Stand{})
		r, e5 := Resultant(c.s, nil)
		p, e6 := Powers(c.s, nil)
		sum, sizes, e7 := Least(c.s)
		interval, e8 := Range(c.s, -1)
		for k, e := range []api.Errno{e1, e2, e3, e4, e5, e6, e7, e8} {
			if e != c.e {
				t.Errorf("%d, %d: %d, not %d", i, k, e, c.e)
			}
		}
		if f != nil || w != nil || !isZero(x) || r != nil || p != nil || sum != "" || sizes != nil || interval != (api.Interval{}) {
			t.Errorf("%d: the results are not zero", i)
		}
	}
}

// P31.2
func TestForcesAndWeights(t *testing.T) {
	s := cube("0 0 -1", support(0, "2 1 1", "3 0 0"), support(0, "1 1 2", "0 0 1"))
	f, e := Forces(s)
	// The contact is that of 0 with 1: its normal points down.
	force := func(contact int, at, normal string) api.Force {
		return api.Force{Contact: contact, Point: point(at), Normal: point(normal), Size: "1"}
	}
	want := []api.Force{force(0, "0 0 0", "0 0 -1"), force(0, "0 2 0", "0 0 -1"), force(0, "2 2 0", "0 0 -1"), force(0, "2 0 0", "0 0 -1"), force(-1, "2 1 1", "3 0 0"), force(-2, "1 1 2", "0 0 1")}
	if !slices.Equal(f, want) || e != api.OK {
		t.Errorf("Forces = %v, %d", f, e)
	}
	w, e := Weights(s)
	if !slices.Equal(w, []api.Wrench{api.Wrench(numbers("-8 8 0 0 0 -8"))}) || e != api.OK {
		t.Errorf("Weights = %v, %d", w, e)
	}
	heavy := tower("0 1/2 -1")
	heavy.Assembly.Parts[2].Density = 3
	w, e = Weights(heavy)
	if !slices.Equal(w, []api.Wrench{api.Wrench(numbers("-12 8 4 0 4 -8")), api.Wrench(numbers("-60 24 12 0 12 -24"))}) || e != api.OK {
		t.Errorf("Weights = %v, %d", w, e)
	}
	// Contacts with instances that are neither free nor held do not matter, nor do those between held ones.
	l := tower("0 0 -1")
	l.Held = nil
	if f, e := Forces(l); len(f) != 4 || f[0].Contact != 1 || e != api.OK {
		t.Errorf("Forces = %v, %d", f, e)
	}
	l.Free, l.Held = []int{2}, []int{0, 1}
	if f, e := Forces(l); len(f) != 4 || f[0].Contact != 1 || e != api.OK {
		t.Errorf("Forces = %v, %d", f, e)
	}
}

// P31.3, P31.4
func TestBalanceAndVerify(t *testing.T) {
	for i, c := range []struct {
		s      System
		stands bool
	}{
		{cube("0 0 -1"), true}, {cube("1 0 -1"), false}, {cube("0 0 1"), false}, {cube("0 0 0"), true}, {cube("1 0 -1", support(0, "2 1 1", "1 0 0")), true}, {tower("0 0 -3"), true}, {tower("0 1 -3"), false}, {System{build(one(0, 0, 0, 2, 2, 2)), []int{0}, nil, nil, point("0 0 -1")}, false}, {System{build(one(0, 0, 0, 2, 2, 2)), []int{0}, nil, nil, point("0 0 0")}, true}, {System{build(one(0, 0, 0, 2, 2, 2)), []int{0}, nil, []Support{support(0, "1 1 0", "0 0 -1")}, point("0 0 -1")}, true}, {System{build(one(0, 0, 0, 2, 2, 2)), []int{0}, nil, []Support{support(0, "1/2 1 0", "0 0 -1")}, point("0 0 -1")}, false},
		// Its centre of mass lies beside the plate.
		{System{build(one(0, 0, 0, 4, 2, 2), one(-1, -1, -1, 1, 3, 0)), []int{0}, []int{1}, nil, point("0 0 -1")}, false},
	} {
		x, e := Balance(c.s)
		if x.Stands != c.stands || e != api.OK || Verify(c.s, x) != api.OK || x.Stands && x.Motion != nil || !x.Stands && x.Forces != nil {
			t.Errorf("%d: Balance = %v, %d, %d", i, x, e, Verify(c.s, x))
		}
	}
	falls := cube("1 0 -1")
	for i, c := range []struct {
		s System
		x api.Stand
		e api.Errno
	}{
		{cube("0 0 -1"), api.Stand{Stands: true, Forces: numbers("2 2 2 2")}, api.OK}, {cube("0 0 -1"), api.Stand{Stands: true, Forces: numbers("4 0 4 0")}, api.OK}, {falls, api.Stand{Motion: []api.Twist{twist1("0 0 0 1 0 0")}}, api.OK}, {falls, api.Stand{Motion: []api.Twist{twist1("0 0 0 1/2 7 1/3")}}, api.OK},
		{cube("0 0 -1"), api.Stand{Stands: true, Forces: numbers("x 2 2")}, api.ErrSize}, {cube("0 0 -1"), api.Stand{Stands: true, Forces: numbers("2 2 2 2"), Motion: []api.Twist{{}}}, api.ErrSize}, {cube("0 0 -1"), api.Stand{Stands: true, Forces: numbers("2 2/4 x 2")}, api.ErrForm}, {cube("0 0 -1"), api.Stand{Stands: true, Forces: numbers("2 2 2 3")}, api.ErrCertificate}, {cube("0 0 -1"), api.Stand{Stands: true, Forces: numbers("5 -1 5 -1")}, api.ErrCertificate}, {cube("0 0 -1"), api.Stand{Stands: true, Forces: numbers("4 4 0 0")}, api.ErrCertificate},
		{falls, api.Stand{}, api.ErrSize}, {falls, api.Stand{Motion: []api.Twist{twist1("0 0 0 1 0 0")}, Forces: numbers("1")}, api.ErrSize}, {falls, api.Stand{Motion: []api.Twist{twist1("0 0 0 x 0 2/4")}}, api.ErrSyntax}, {falls, api.Stand{Motion: []api.Twist{twist1("0 0 0 0 0 0")}}, api.ErrCertificate}, {falls, api.Stand{Motion: []api.Twist{twist1("0 0 0 2 0 -1")}}, api.ErrCertificate}, {falls, api.Stand{Motion: []api.Twist{twist1("0 0 0 -1 0 0")}}, api.ErrCertificate}, {cube("0 0 -1"), api.Stand{Motion: []api.Twist{twist1("0 0 0 1 0 0")}}, api.ErrCertificate},
	} {
		if e := Verify(c.s, c.x); e != c.e {
			t.Errorf("%d: Verify: %d, not %d", i, e, c.e)
		}
	}
}

// P31.5
func TestResultantAndPowers(t *testing.T) {
	s := tower("0 0 -1")
	// Four forces from the plate on the lower cube, and four between the cubes.
	w, e := Resultant(s, numbers("1 0 0 0 0 0 -2 0"))
	if want := []api.Wrench{api.Wrench(numbers("4 -4 0 0 0 3")), api.Wrench(numbers("-4 4 0 0 0 -2"))}; !slices.Equal(w, want) || e != api.OK {
		t.Errorf("Resultant = %v, %d", w, e)
	}
	p, e := Powers(s, []api.Twist{twist1("0 0 0 0 0 1"), twist1("0 0 0 0 0 3")})
	if !slices.Equal(p, numbers("1 1 1 1 2 2 2 2")) || e != api.OK {
		t.Errorf("Powers = %s, %d", p, e)
	}
	for i, c := range []struct {
		sizes []api.Number
		e     api.Errno
	}{{numbers("1 x"), api.ErrSize}, {numbers("1 0 0 0 2/4 x 0 0"), api.ErrForm}} {
		if w, e := Resultant(s, c.sizes); w != nil || e != c.e {
			t.Errorf("%d: Resultant: %d", i, e)
		}
	}
	for i, c := range []struct {
		motion []api.Twist
		e      api.Errno
	}{{[]api.Twist{{}}, api.ErrSize}, {[]api.Twist{twist1("0 0 0 0 0 1"), twist1("0 0 0 0 1/0 x")}, api.ErrZero}} {
		if p, e := Powers(s, c.motion); p != nil || e != c.e {
			t.Errorf("%d: Powers: %d", i, e)
		}
	}
}

// P31.6
func TestLeastAndRange(t *testing.T) {
	s := cube("0 0 -1")
	sum, sizes, e := Least(s)
	if sum != "8" || e != api.OK || Verify(s, api.Stand{Stands: true, Forces: sizes}) != api.OK {
		t.Errorf("Least = %s, %s, %d", sum, sizes, e)
	}
	for i := range 4 {
		if x, e := Range(s, i); x != (api.Interval{Low: "0", High: "4", LowEnd: api.Closed, HighEnd: api.Closed}) || e != api.OK {
			t.Errorf("Range(%d) = %v, %d", i, x, e)
		}
	}
	// Two supports against one another can press as much as they like, but not needlessly in the least sum.
	pressed := cube("0 0 -1", support(0, "1 1 2", "0 0 1"))
	if sum, _, e := Least(pressed); sum != "8" || e != api.OK {
		t.Errorf("Least = %s, %d", sum, e)
	}
	if x, e := Range(pressed, 4); x != (api.Interval{Low: "0", LowEnd: api.Closed, HighEnd: api.Infinite}) || e != api.OK {
		t.Errorf("Range = %v, %d", x, e)
	}
	for _, i := range []int{-1, 4} {
		if x, e := Range(cube("1 0 0"), i); x != (api.Interval{}) || e != api.ErrRange {
			t.Errorf("Range: %d", e)
		}
	}
	if x, e := Range(cube("1 0 0"), 0); x != (api.Interval{}) || e != api.ErrInfeasible {
		t.Errorf("Range: %d", e)
	}
	if sum, sizes, e := Least(cube("1 0 0")); sum != "" || sizes != nil || e != api.ErrInfeasible {
		t.Errorf("Least: %d", e)
	}
	none := System{build(one(0, 0, 0, 2, 2, 2)), []int{0}, nil, nil, point("0 0 0")}
	if sum, sizes, e := Least(none); sum != "0" || len(sizes) != 0 || e != api.OK {
		t.Errorf("Least = %s, %s, %d", sum, sizes, e)
	}
}

// random returns a system of some boxes on a plate.
func random(r *rand.Rand) System {
	x := r.Intn(4)
	a := build(one(-5, -5, -1, 5, 5, 0), one(0, 0, 0, 2, 2, 1+r.Intn(2)), one(x-1, 0, 2, x+2, 2, 3), one(2, 0, 0, 3, 2, 2))
	g := []string{"0 0 -1", "1 0 -3", "0 1/2 -1", "-1 0 -1"}[r.Intn(4)]
	return System{a, []int{1, 2, 3}, []int{0}, nil, point(g)}
}

// P31.7
func TestConsequences(t *testing.T) {
	r := rand.New(rand.NewSource(1))
	quarters := motion.Quarters()
	stands := map[bool]int{}
	for range 25 {
		s := random(r)
		x, e := Balance(s)
		if e != api.OK || Verify(s, x) != api.OK {
			t.Fatalf("Balance: %d, %d", e, Verify(s, x))
		}
		stands[x.Stands]++
		checkPowers(t, r, s)
		still := s
		still.Gravity = point("0 0 0")
		if y, _ := Balance(still); !y.Stands {
			t.Fatal("without gravity something falls")
		}
		if x.Stands {
			held := s
			held.Free, held.Held = []int{1, 3}, []int{0, 2}
			more := s
			more.Supports = []Support{support(2, "1 1 3", "1 2 3")}
			for _, y := range []System{held, more} {
				if z, _ := Balance(y); !z.Stands {
					t.Fatal("held and supported it falls")
				}
			}
			var twice []api.Number
			l, _ := rational.Reads(x.Forces)
			for _, f := range l {
				twice = append(twice, rational.Add(f, f).Number())
			}
			heavy := s
			v, _ := vector.Read(s.Gravity)
			heavy.Gravity = vector.Add(v, v).Point()
			if e := Verify(heavy, api.Stand{Stands: true, Forces: twice}); e != api.OK {
				t.Fatalf("with twice the gravity: %d", e)
			}
		}
		p := api.Placement{Turn: quarters[r.Intn(24)], Shift: point("1/2 7 -3")}
		checkTurned(t, s, p, x)
		p.Turn = [4]int{2, 1, 0, -1}
		if y, _ := Balance(turned(t, s, p)); y.Stands != x.Stands {
			t.Fatal("turning changes whether it stands")
		}
	}
	if stands[true] < 3 || stands[false] < 3 {
		t.Errorf("%v", stands)
	}
}

func turned(t *testing.T, s System, p api.Placement) System {
	t.Helper()
	a, e := assembly.Move(s.Assembly, p)
	if e != api.OK {
		t.Fatal(e)
	}
	m, _ := motion.Of(p)
	v, _ := vector.Read(s.Gravity)
	s.Assembly, s.Gravity = a, motion.Turn(m, v).Point()
	return s
}

// checkTurned compares the least sums of a system and of a turned one.
func checkTurned(t *testing.T, s System, p api.Placement, x api.Stand) {
	t.Helper()
	y := turned(t, s, p)
	sum, _, e := Least(s)
	other, _, f := Least(y)
	if sum != other || e != f || (e == api.OK) != x.Stands {
		t.Fatalf("the least sums are %s, %d, and turned %s, %d", sum, e, other, f)
	}
}

// checkPowers compares the powers of forces with that of their resultants.
func checkPowers(t *testing.T, r *rand.Rand, s System) {
	t.Helper()
	f, _ := Forces(s)
	var sizes []api.Number
	var motion []api.Twist
	for range f {
		sizes = append(sizes, rational.From(r.Intn(7)-3).Number())
	}
	for range s.Free {
		var x api.Twist
		for i := range x {
			x[i] = rational.From(r.Intn(5) - 2).Number()
		}
		motion = append(motion, x)
	}
	w, e1 := Resultant(s, sizes)
	p, e2 := Powers(s, motion)
	if e1 != api.OK || e2 != api.OK {
		t.Fatalf("%d, %d", e1, e2)
	}
	var sum rational.Rat
	k, _ := rational.Reads(sizes)
	l, _ := rational.Reads(p)
	for i := range l {
		sum = rational.Add(sum, rational.Mul(k[i], l[i]))
	}
	for i := range w {
		x, _ := twist.Parse(motion[i])
		y, _ := twist.ParseWrench(w[i])
		sum = rational.Sub(sum, twist.Power(x, y))
	}
	if sum.Sign() != 0 {
		t.Fatalf("the powers differ by %s", sum.Number())
	}
}
