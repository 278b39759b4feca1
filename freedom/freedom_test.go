package freedom

import (
	"math/rand"
	"slices"
	"strings"
	"testing"

	"dowel/api"
	"dowel/cone"
	"dowel/linear"
	"dowel/rational"
)

func box(x, y, z, a, b, c int) api.Cell {
	return api.Cell{Vertices: []api.Vector{{x, y, z}, {x, y, c}, {x, b, z}, {x, b, c}, {a, y, z}, {a, y, c}, {a, b, z}, {a, b, c}}}
}

// build returns an assembly whose instances stay where the cells of their parts are.
func build(parts ...[]api.Cell) api.Assembly {
	var a api.Assembly
	for i, cells := range parts {
		name := string(rune('a' + i))
		a.Parts = append(a.Parts, api.Part{Name: name, Density: 1, Cells: cells})
		a.Instances = append(a.Instances, api.Instance{Name: name, Part: name, Place: api.Placement{Turn: [4]int{1, 0, 0, 0}, Shift: api.Point{"0", "0", "0"}}})
	}
	return a
}

func one(x, y, z, a, b, c int) []api.Cell { return []api.Cell{box(x, y, z, a, b, c)} }

// plate is a cube (1) on a plate (0).
func plate() api.Assembly { return build(one(-1, -1, -1, 2, 2, 0), one(0, 0, 0, 1, 1, 1)) }

// cage is a cube (0) between six boxes, which touch it alone.
func cage() api.Assembly {
	return build(one(0, 0, 0, 3, 3, 3), one(-1, 1, 1, 0, 2, 2), one(3, 1, 1, 4, 2, 2), one(1, -1, 1, 2, 0, 2), one(1, 3, 1, 2, 4, 2), one(1, 1, -1, 2, 2, 0), one(1, 1, 3, 2, 2, 4))
}

// grip is a bar (0) that two jaws (1) hold on four sides, crosswise; the jaws do not turn against it.
func grip() api.Assembly {
	return build(one(0, 0, 0, 2, 2, 2), []api.Cell{box(-1, -1, 0, 0, 3, 2), box(2, -1, 0, 3, 3, 2), box(0, -1, 0, 2, 0, 2), box(0, 2, 0, 2, 3, 2), box(0, 0, -1, 2, 2, 0), box(0, 0, 2, 2, 2, 3)})
}

func write(l []api.Row) string {
	var rows []string
	for _, r := range l {
		var words []string
		for _, n := range r.Coefficients {
			words = append(words, string(n))
		}
		rows = append(rows, strings.Join(words, " ")+" <= "+string(r.Bound))
	}
	return strings.Join(rows, ", ")
}

func numbers(text string) api.Twist {
	var l api.Twist
	for i, word := range strings.Fields(text) {
		l[i] = api.Number(word)
	}
	return l
}

// P18.1
func TestRows(t *testing.T) {
	a := plate()
	down := "0 0 0 0 0 -1 <= 0, 0 1 0 0 0 -1 <= 0, -1 1 0 0 0 -1 <= 0, -1 0 0 0 0 -1 <= 0"
	up := "0 0 0 0 0 1 <= 0, 0 -1 0 0 0 1 <= 0, 1 -1 0 0 0 1 <= 0, 1 0 0 0 0 1 <= 0"
	l, e := Rows(a, []int{1}, []int{0})
	if write(l) != down || e != api.OK {
		t.Errorf("Rows = %s, %d", write(l), e)
	}
	l, e = Rows(a, []int{0}, []int{1})
	if write(l) != up || e != api.OK {
		t.Errorf("Rows = %s, %d", write(l), e)
	}
	if l, e := Rows(a, []int{1}, nil); len(l) != 0 || e != api.OK {
		t.Errorf("Rows = %s, %d", write(l), e)
	}
	// Only proper contacts count, and only those between both lists.
	b := build(one(0, 0, 0, 1, 1, 1), one(1, 0, 0, 2, 1, 1), one(2, 1, 0, 3, 2, 1), one(2, 0, 0, 3, 1, 1))
	if l, e := Rows(b, []int{1}, []int{2}); len(l) != 0 || e != api.OK {
		t.Errorf("Rows = %s, %d", write(l), e)
	}
	if l, e := Rows(b, []int{1}, []int{0, 3}); len(l) != 8 || e != api.OK || l[0].Coefficients[3] != "-1" || l[4].Coefficients[3] != "1" {
		t.Errorf("Rows = %s, %d", write(l), e)
	}
}

// P18.1
func TestJoint(t *testing.T) {
	b := build(one(0, 0, 0, 1, 1, 1), one(1, 0, 0, 2, 1, 1), one(2, 0, 0, 3, 1, 1))
	l, e := Joint(b, []int{0, 1}, []int{2})
	if len(l) != 8 || e != api.OK {
		t.Fatalf("Joint = %s, %d", write(l), e)
	}
	if want := "0 0 0 1 0 0 0 0 0 -1 0 0 <= 0"; write(l[:1]) != want {
		t.Errorf("Joint = %s", write(l[:1]))
	}
	if want := "0 0 0 0 0 0 0 0 0 1 0 0 <= 0"; write(l[4:5]) != want {
		t.Errorf("Joint = %s", write(l[4:5]))
	}
	l, e = Joint(b, []int{0, 2}, []int{1})
	if len(l) != 8 || e != api.OK || write(l[:1]) != "0 0 0 1 0 0 0 0 0 0 0 0 <= 0" || write(l[4:5]) != "0 0 0 0 0 0 0 0 0 -1 0 0 <= 0" {
		t.Errorf("Joint = %s, %d", write(l), e)
	}
	if l, e := Joint(b, []int{0}, []int{2}); len(l) != 0 || e != api.OK {
		t.Errorf("Joint = %s, %d", write(l), e)
	}
	l, e = Joint(b, []int{1, 2}, nil)
	if len(l) != 4 || e != api.OK {
		t.Errorf("Joint = %s, %d", write(l), e)
	}
}

// stairs returns towers of six steps that stand on one another, so that each pair has contacts in many planes.
func stairs(count int) api.Assembly {
	var parts [][]api.Cell
	for i := range count {
		var l []api.Cell
		for k := range 6 {
			l = append(l, box(10*k, 0, 20*i+k, 10*k+10, 10, 20*i+20+k))
		}
		parts = append(parts, l)
	}
	return build(parts...)
}

func TestLimits(t *testing.T) {
	a := stairs(12)
	all := []int{0, 1, 2, 3, 4, 5, 6, 7, 8, 9, 10, 11}
	if l, e := Joint(a, all, nil); l != nil || e != api.ErrLimit {
		t.Errorf("Joint: %d rows, %d", len(l), e)
	}
	even, odd := []int{0, 2, 4, 6, 8, 10}, []int{1, 3, 5, 7, 9, 11}
	l, e1 := Rows(a, even, odd)
	c, e2 := Cone(a, even, odd)
	d, e3 := Translations(a, even, odd)
	is, broken, e4 := Allows(a, even, odd, api.Twist{})
	proof, free, im, e5 := Immobile(a, even, odd)
	e6 := Verify(a, even, odd, nil)
	locked, e7 := Locked(a, all, nil)
	for i, e := range []api.Errno{e1, e2, e3, e4, e5, e6, e7} {
		if e != api.ErrLimit {
			t.Errorf("%d: %d", i, e)
		}
	}
	if l != nil || !cone.Equal(c, cone.Cone{}) || !cone.Equal(d, cone.Cone{}) || is || broken != nil || proof != nil || free != (api.Twist{}) || im || locked {
		t.Error("the results are not zero")
	}
	// 6 towers have 5 pairs with 11 contacts of 4 points: 6 below, and 5 beside the steps.
	if l, e := Joint(a, all[:6], nil); len(l) != 220 || e != api.OK {
		t.Errorf("Joint: %d rows, %d", len(l), e)
	}
}

func TestFirstErrors(t *testing.T) {
	a := plate()
	bad := plate()
	bad.Instances[0].Part = "none"
	thick := build(one(0, 0, 0, 2, 2, 2), one(1, 1, 1, 3, 3, 3))
	for i, c := range []struct {
		a         api.Assembly
		set, rest []int
		e         api.Errno
	}{
		{bad, nil, nil, api.ErrUnknown}, {thick, nil, nil, api.ErrPenetrate}, {a, nil, []int{5}, api.ErrEmpty}, {a, []int{2}, []int{1, 0}, api.ErrRange}, {a, []int{-1}, nil, api.ErrRange}, {a, []int{1, 0, 7}, nil, api.ErrOrder}, {a, []int{0, 0}, []int{9}, api.ErrOrder}, {a, []int{1}, []int{2}, api.ErrRange}, {a, []int{1}, []int{1, 0}, api.ErrOrder}, {a, []int{1}, []int{0, 1}, api.ErrConflict},
	} {
		l, e1 := Rows(c.a, c.set, c.rest)
		m, e2 := Joint(c.a, c.set, c.rest)
		_, e3 := Cone(c.a, c.set, c.rest)
		_, e4 := Translations(c.a, c.set, c.rest)
		is, broken, e5 := Allows(c.a, c.set, c.rest, api.Twist{})
		proof, free, im, e6 := Immobile(c.a, c.set, c.rest)
		e7 := Verify(c.a, c.set, c.rest, nil)
		locked, e8 := Locked(c.a, c.set, c.rest)
		for k, e := range []api.Errno{e1, e2, e3, e4, e5, e6, e7, e8} {
			if e != c.e {
				t.Errorf("%d, %d: %d, not %d", i, k, e, c.e)
			}
		}
		if l != nil || m != nil || is || broken != nil || proof != nil || free != (api.Twist{}) || im || locked {
			t.Errorf("%d: the results are not zero", i)
		}
	}
}

// P18.2
func TestCones(t *testing.T) {
	a := plate()
	c, e := Translations(a, []int{1}, []int{0})
	if want := (cone.Cone{Dim: 3, Lines: [][]api.Number{{"1", "0", "0"}, {"0", "1", "0"}}, Rays: [][]api.Number{{"0", "0", "1"}}}); !cone.Equal(c, want) || e != api.OK {
		t.Errorf("Translations = %v, %d", c, e)
	}
	c, e = Cone(a, []int{1}, []int{0})
	l, _ := Rows(a, []int{1}, []int{0})
	var vectors [][]api.Number
	for _, r := range l {
		vectors = append(vectors, r.Coefficients)
	}
	if want, _ := cone.FromRows(6, vectors); !cone.Equal(c, want) || e != api.OK || len(c.Lines) != 3 {
		t.Errorf("Cone = %v, %d", c, e)
	}
	if c, e := Cone(a, []int{1}, nil); len(c.Lines) != 6 || e != api.OK {
		t.Errorf("Cone = %v, %d", c, e)
	}
	if c, e := Translations(grip(), []int{0}, []int{1}); !cone.Equal(c, cone.Cone{Dim: 3}) || e != api.OK {
		t.Errorf("Translations = %v, %d", c, e)
	}
	// More rows than a cone may have.
	if c, e := Cone(stairs(3), []int{1}, []int{0, 2}); !cone.Equal(c, cone.Cone{}) || e != api.ErrLimit {
		t.Errorf("Cone: %d", e)
	}
}

// P18.3
func TestAllows(t *testing.T) {
	a := plate()
	for _, c := range []struct {
		t      string
		broken []int
	}{{"0 0 0 0 0 -1", []int{0, 1, 2, 3}}, {"0 0 0 1 0 0", nil}, {"0 0 5 1 -1/2 0", nil}, {"0 0 0 0 0 1/3", nil}, {"0 1 0 0 0 0", []int{1, 2}}, {"0 1 0 0 0 1", nil}, {"0 0 0 0 0 0", nil}} {
		is, broken, e := Allows(a, []int{1}, []int{0}, numbers(c.t))
		if is != (c.broken == nil) || !slices.Equal(broken, c.broken) || e != api.OK {
			t.Errorf("Allows(%s) = %t, %d, %d", c.t, is, broken, e)
		}
	}
	for text, want := range map[string]api.Errno{"0 0 0 0 0 00": api.ErrForm, "1/0 x 0 0 0 0": api.ErrZero} {
		if is, broken, e := Allows(a, []int{1}, []int{0}, numbers(text)); is || broken != nil || e != want {
			t.Errorf("Allows(%s): %d", text, e)
		}
	}
}

// P18.4
func TestImmobileAndVerify(t *testing.T) {
	a := grip()
	proof, free, is, e := Immobile(a, []int{0}, []int{1})
	if !is || free != (api.Twist{}) || e != api.OK || Verify(a, []int{0}, []int{1}, proof) != api.OK {
		t.Fatalf("Immobile = %t, %d, %d", is, e, Verify(a, []int{0}, []int{1}, proof))
	}
	change := func(f func(l [][]api.Number) [][]api.Number) [][]api.Number {
		var l [][]api.Number
		for _, m := range proof {
			l = append(l, slices.Clone(m))
		}
		return f(l)
	}
	for i, c := range []struct {
		proof [][]api.Number
		e     api.Errno
	}{
		{nil, api.ErrSize}, {proof[:11], api.ErrSize}, {append(slices.Clone(proof), proof[0]), api.ErrSize}, {change(func(l [][]api.Number) [][]api.Number { l[0][0] = "x"; l[11] = l[11][1:]; return l }), api.ErrSize}, {change(func(l [][]api.Number) [][]api.Number { l[3][2], l[4][0] = "2/4", "x"; return l }), api.ErrForm}, {change(func(l [][]api.Number) [][]api.Number { l[0], l[1] = l[1], l[0]; return l }), api.ErrCertificate}, {change(func(l [][]api.Number) [][]api.Number {
			for k := range l[5] {
				l[5][k] = "0"
			}
			return l
		}), api.ErrCertificate},
	} {
		if e := Verify(a, []int{0}, []int{1}, c.proof); e != c.e {
			t.Errorf("%d: Verify: %d, not %d", i, e, c.e)
		}
	}
	b := plate()
	proof, free, is, e = Immobile(b, []int{1}, []int{0})
	if proof != nil || is || e != api.OK {
		t.Errorf("Immobile = %t, %d", is, e)
	}
	if ok, _, _ := Allows(b, []int{1}, []int{0}, free); !ok || free == numbers("0 0 0 0 0 0") {
		t.Errorf("Immobile = %v", free)
	}
	if proof, free, is, e := Immobile(b, []int{0, 1}, nil); proof != nil || free == numbers("0 0 0 0 0 0") || is || e != api.OK {
		t.Errorf("Immobile = %v, %t, %d", free, is, e)
	}
}

func TestVerifyRefusesNegatives(t *testing.T) {
	// Two rows of opposite coefficients: with negative multipliers one of them alone would prove both.
	l := [][]rational.Rat{{rational.From(1)}, {rational.From(-1)}}
	if combines(l, []rational.Rat{rational.From(-1), rational.From(0)}, []rational.Rat{rational.From(-1)}) || !combines(l, []rational.Rat{rational.From(0), rational.From(1)}, []rational.Rat{rational.From(-1)}) {
		t.Error("combines")
	}
}

// P18.5
func TestLocked(t *testing.T) {
	for i, c := range []struct {
		a             api.Assembly
		moving, fixed []int
		want          bool
	}{
		{grip(), []int{0}, []int{1}, true}, {grip(), []int{1}, []int{0}, true}, {grip(), []int{0, 1}, nil, false}, {plate(), []int{1}, []int{0}, false}, {cage(), []int{0}, []int{1, 2, 3, 4, 5, 6}, true}, {cage(), []int{0}, []int{1, 2, 3, 4, 5}, false}, {cage(), []int{0, 6}, []int{1, 2, 3, 4, 5}, false},
	} {
		if is, e := Locked(c.a, c.moving, c.fixed); is != c.want || e != api.OK {
			t.Errorf("%d: Locked = %t, %d", i, is, e)
		}
	}
}

// P18.6
func TestConsequences(t *testing.T) {
	r := rand.New(rand.NewSource(1))
	for range 30 {
		x := r.Intn(3)
		a := build(one(0, 0, 0, 4, 4, 1), one(x, 0, 1, x+2, 2, 2), one(x+2, 0, 1, x+3, 3, 3), one(x, 2, 1, x+1, 3, 2))
		set, rest := []int{1}, []int{0, 2, 3}
		c, e := Cone(a, set, rest)
		if e != api.OK {
			t.Fatalf("Cone: %d", e)
		}
		together, _ := Cone(a, set, rest[:1])
		for _, k := range rest[1:] {
			d, _ := Cone(a, set, []int{k})
			together, _ = cone.Intersect(together, d)
		}
		if !cone.Equal(c, together) {
			t.Fatalf("the freedoms are %v, and together %v", c, together)
		}
		back, _ := Cone(a, rest, set)
		var negatives [][]api.Number
		for _, ray := range c.Rays {
			l, _ := rational.Reads(ray)
			for i := range l {
				l[i] = rational.Neg(l[i])
			}
			negatives = append(negatives, rational.Numbers(l))
		}
		if want, _ := cone.Generate(6, c.Lines, negatives); !cone.Equal(back, want) {
			t.Fatalf("the freedoms of the rest are %v", back)
		}
		checkJoint(t, a, c)
	}
}

// checkJoint checks that a freedom of two instances, as one body, is a joint motion, and that sums of freedoms are freedoms.
func checkJoint(t *testing.T, a api.Assembly, single cone.Cone) {
	t.Helper()
	c, _ := Cone(a, []int{1, 2}, []int{0, 3})
	l, e := Joint(a, []int{1, 2}, []int{0, 3})
	if e != api.OK {
		t.Fatal(e)
	}
	for _, ray := range c.Rays {
		if is, e := linear.Holds(append(slices.Clone(ray), ray...), l); !is || e != api.OK {
			t.Fatalf("%s is no joint motion", ray)
		}
	}
	for i := range single.Rays {
		x, _ := rational.Reads(single.Rays[0])
		y, _ := rational.Reads(single.Rays[i])
		for k := range x {
			x[k] = rational.Add(x[k], y[k])
		}
		if is, _, _ := Allows(a, []int{1}, []int{0, 2, 3}, api.Twist(rational.Numbers(x))); !is {
			t.Fatalf("a sum of freedoms is none: %s", rational.Numbers(x))
		}
	}
}
