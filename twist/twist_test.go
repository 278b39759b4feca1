package twist

import (
	"math/rand"
	"strings"
	"testing"

	"dowel/api"
	"dowel/motion"
	"dowel/rational"
	"dowel/vector"
)

func numbers(text string) [6]api.Number {
	var l [6]api.Number
	for i, word := range strings.Fields(text) {
		l[i] = api.Number(word)
	}
	return l
}

func twist(t *testing.T, text string) Twist {
	t.Helper()
	x, e := Parse(numbers(text))
	if e != api.OK {
		t.Fatalf("Parse(%s): %d", text, e)
	}
	return x
}

func wrench(t *testing.T, text string) Wrench {
	t.Helper()
	x, e := ParseWrench(numbers(text))
	if e != api.OK {
		t.Fatalf("ParseWrench(%s): %d", text, e)
	}
	return x
}

func vec(t *testing.T, text string) vector.Vec {
	t.Helper()
	f := strings.Fields(text)
	v, e := vector.Read(api.Point{api.Number(f[0]), api.Number(f[1]), api.Number(f[2])})
	if e != api.OK {
		t.Fatal(e)
	}
	return v
}

func text(v vector.Vec) string {
	p := v.Point()
	return string(p[0] + " " + p[1] + " " + p[2])
}

func same(a, b Wrench) bool {
	return vector.Equal(a.Moment, b.Moment) && vector.Equal(a.Force, b.Force)
}

func random(r *rand.Rand) vector.Vec {
	var v vector.Vec
	for i := range v {
		v[i], _ = rational.Div(rational.From(r.Intn(9)-4), rational.From(1+r.Intn(2)))
	}
	return v
}

// P17.1
func TestParseAndNumbers(t *testing.T) {
	long := api.Number(strings.Repeat("1", api.MaxNumber+1))
	longest := api.Number(strings.Repeat("1", api.MaxBytes+1))
	for i, c := range []struct {
		l [6]api.Number
		e api.Errno
	}{{numbers("1 -2 1/3 4 5 6"), api.OK}, {[6]api.Number{"0", "0", "0", "0", "0", long}, api.OK}, {[6]api.Number{"0", "0", "0", "0", "0", longest}, api.ErrLong}, {numbers("1 2/4 x 1/0 0 0"), api.ErrForm}, {numbers("1 2 x 1/0 0 0"), api.ErrSyntax}, {numbers("1 2 3 1/0 00 0"), api.ErrZero}, {numbers("1 2 3 4 5 00"), api.ErrForm}, {[6]api.Number{}, api.ErrSyntax}} {
		x, e := Parse(c.l)
		if e != c.e || e == api.OK && x.Numbers() != c.l || e != api.OK && !IsZero(x) {
			t.Errorf("%d: Parse: %d", i, e)
		}
		w, e := ParseWrench(c.l)
		if e != c.e || e == api.OK && w.Numbers() != c.l || e != api.OK && !same(w, Wrench{}) {
			t.Errorf("%d: ParseWrench: %d", i, e)
		}
	}
	x := twist(t, "1 2 3 4 5 6")
	if text(x.Angular) != "1 2 3" || text(x.Linear) != "4 5 6" {
		t.Errorf("Parse = %v", x.Numbers())
	}
	w := wrench(t, "1 2 3 4 5 6")
	if text(w.Moment) != "1 2 3" || text(w.Force) != "4 5 6" {
		t.Errorf("ParseWrench = %v", w.Numbers())
	}
}

// P17.2
func TestTranslateRotateForceSum(t *testing.T) {
	if x := Translate(vec(t, "1 -2 1/2")); x.Numbers() != numbers("0 0 0 1 -2 1/2") {
		t.Errorf("Translate = %v", x.Numbers())
	}
	x := Rotate(vec(t, "0 0 1"), vec(t, "1 0 0"))
	if x.Numbers() != numbers("0 0 1 0 -1 0") || text(Velocity(x, vec(t, "2 0 0"))) != "0 1 0" || text(Velocity(x, vec(t, "1 0 7"))) != "0 0 0" {
		t.Errorf("Rotate = %v", x.Numbers())
	}
	if w := Force(vec(t, "3 0 0"), vec(t, "0 0 -2")); w.Numbers() != numbers("0 6 0 0 0 -2") {
		t.Errorf("Force = %v", w.Numbers())
	}
	if w := Sum(wrench(t, "1 2 3 4 5 6"), wrench(t, "1 1 1 1 1 1"), wrench(t, "0 0 0 0 0 1/2")); w.Numbers() != numbers("2 3 4 5 6 15/2") {
		t.Errorf("Sum = %v", w.Numbers())
	}
	if !same(Sum(), Wrench{}) {
		t.Error("Sum of none")
	}
}

// P17.3
func TestAddScalePrimitive(t *testing.T) {
	a, b := twist(t, "1 2 3 4 5 6"), twist(t, "0 0 -1 1/2 0 0")
	half, _ := rational.Parse("-1/2")
	if x := Add(a, b).Numbers(); x != numbers("1 2 2 9/2 5 6") {
		t.Errorf("Add = %v", x)
	}
	if x := Scale(a, half).Numbers(); x != numbers("-1/2 -1 -3/2 -2 -5/2 -3") {
		t.Errorf("Scale = %v", x)
	}
	for _, c := range [][2]string{{"0 0 -1 1/2 0 0", "0 0 -2 1 0 0"}, {"4 0 0 0 0 6", "2 0 0 0 0 3"}, {"0 0 0 0 -5/3 0", "0 0 0 0 -1 0"}, {"1/2 1/3 1/4 1/5 1/6 1/7", "210 140 105 84 70 60"}} {
		if x, e := Primitive(twist(t, c[0])); x.Numbers() != numbers(c[1]) || e != api.OK {
			t.Errorf("Primitive(%s) = %v, %d", c[0], x.Numbers(), e)
		}
	}
	if x, e := Primitive(Twist{}); !IsZero(x) || e != api.ErrZero {
		t.Errorf("Primitive: %d", e)
	}
	if !IsZero(Twist{}) || IsZero(twist(t, "0 0 1 0 0 0")) || IsZero(twist(t, "0 0 0 0 0 1")) || !Equal(a, a) || Equal(a, Add(a, twist(t, "0 0 1 0 0 0"))) || Equal(a, Add(a, twist(t, "0 0 0 0 1 0"))) {
		t.Error("IsZero, Equal")
	}
}

// P17.4
func TestVelocityPowerRow(t *testing.T) {
	x := twist(t, "0 1 0 0 0 0")
	if p := Power(x, wrench(t, "0 6 0 0 0 -2")).Number(); p != "6" {
		t.Errorf("Power = %s", p)
	}
	if p := Power(twist(t, "1 2 3 4 5 6"), wrench(t, "1 1/2 0 -1 0 2")).Number(); p != "10" {
		t.Errorf("Power = %s", p)
	}
	if v := text(Velocity(x, vec(t, "3 0 0"))); v != "0 0 -3" {
		t.Errorf("Velocity = %s", v)
	}
	row := rational.Numbers(Row(vec(t, "3 0 1"), vec(t, "0 1/2 0")))
	if [6]api.Number(row) != numbers("-1/2 0 3/2 0 1/2 0") {
		t.Errorf("Row = %s", row)
	}
}

// P17.6
func TestAxisOf(t *testing.T) {
	for _, c := range []struct {
		twist            string
		kind             int
		direction, point string
		pitch            api.Number
	}{
		{"0 0 0 0 0 0", None, "0 0 0", "0 0 0", "0"}, {"0 0 0 0 -4 2", Translation, "0 -2 1", "0 0 0", "0"}, {"0 0 2 0 -2 0", Rotation, "0 0 1", "1 0 0", "0"}, {"0 0 -2 0 2 0", Rotation, "0 0 -1", "1 0 0", "0"}, {"0 0 2 0 -2 4", Screw, "0 0 1", "1 0 0", "2"}, {"0 0 2 0 0 -3", Screw, "0 0 1", "0 0 0", "-3/2"}, {"1/2 1/2 0 0 0 0", Rotation, "1 1 0", "0 0 0", "0"},
	} {
		x := AxisOf(twist(t, c.twist))
		if x.Kind != c.kind || text(x.Direction) != c.direction || text(x.Point) != c.point || x.Pitch.Number() != c.pitch {
			t.Errorf("AxisOf(%s) = %d, %s, %s, %s", c.twist, x.Kind, text(x.Direction), text(x.Point), x.Pitch.Number())
		}
	}
}

// P17.5, P17.7
func TestConsequences(t *testing.T) {
	r := rand.New(rand.NewSource(1))
	m, _ := motion.Of(api.Placement{Turn: [4]int{2, 1, -3, 1}, Shift: api.Point{"1/2", "-7", "3"}})
	for range 100 {
		x := Twist{random(r), random(r)}
		p, f, q := random(r), random(r), random(r)
		moved := Move(x, m)
		if !vector.Equal(Velocity(moved, motion.Apply(m, p)), motion.Turn(m, Velocity(x, p))) {
			t.Fatalf("Move of %v", x.Numbers())
		}
		w := Sum(Force(p, f), Force(q, p))
		if !same(MoveWrench(w, m), Sum(Force(motion.Apply(m, p), motion.Turn(m, f)), Force(motion.Apply(m, q), motion.Turn(m, p)))) {
			t.Fatalf("MoveWrench of %v", w.Numbers())
		}
		sum := rational.Add(vector.Dot(f, Velocity(x, p)), vector.Dot(p, Velocity(x, q)))
		if rational.Compare(Power(x, w), sum) != 0 || rational.Compare(Power(moved, MoveWrench(w, m)), sum) != 0 {
			t.Fatalf("Power of %v under %v", w.Numbers(), x.Numbers())
		}
		var product rational.Rat
		for i, a := range Row(p, f) {
			product = rational.Add(product, rational.Mul(a, join(x.Angular, x.Linear)[i]))
		}
		if rational.Compare(product, vector.Dot(f, Velocity(x, p))) != 0 {
			t.Fatalf("Row of %s and %s", text(p), text(f))
		}
		if vector.Dot(vector.Sub(Velocity(x, p), Velocity(x, q)), vector.Sub(p, q)).Sign() != 0 {
			t.Fatalf("the points of %v come closer", x.Numbers())
		}
		checkAxis(t, x)
	}
}

func checkAxis(t *testing.T, x Twist) {
	t.Helper()
	a := AxisOf(x)
	if a.Kind != Rotation && a.Kind != Screw {
		return
	}
	on := vector.Add(a.Point, vector.Scale(a.Direction, rational.From(3)))
	want := vector.Scale(x.Angular, a.Pitch)
	if !vector.Equal(Velocity(x, a.Point), want) || !vector.Equal(Velocity(x, on), want) || vector.Dot(a.Point, a.Direction).Sign() != 0 || vector.Dot(a.Direction, x.Angular).Sign() <= 0 || (a.Kind == Screw) != (a.Pitch.Sign() != 0) {
		t.Fatalf("AxisOf(%v) = %v", x.Numbers(), a)
	}
}
