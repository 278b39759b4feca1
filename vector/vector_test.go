package vector

import (
	"math"
	"math/rand"
	"strings"
	"testing"

	"dowel/api"
	"dowel/rational"
)

func parse(t *testing.T, text string) Vec {
	t.Helper()
	f := strings.Fields(text)
	v, e := Parse(api.Point{api.Number(f[0]), api.Number(f[1]), api.Number(f[2])})
	if e != api.OK {
		t.Fatalf("Parse(%q): %d", text, e)
	}
	return v
}

func expect(t *testing.T, what string, v Vec, text string) {
	t.Helper()
	p := v.Point()
	if got := string(p[0] + " " + p[1] + " " + p[2]); got != text {
		t.Errorf("%s = %s, not %s", what, got, text)
	}
}

func samples(count int) []Vec {
	r := rand.New(rand.NewSource(1))
	var l []Vec
	for range count {
		var v Vec
		for i := range v {
			a, _ := rational.Div(rational.From(r.Intn(9)-4), rational.From(1+r.Intn(3)))
			v[i] = a
		}
		l = append(l, v)
	}
	return l
}

// P3.1
func TestPlainData(t *testing.T) {
	expect(t, "Of", Of(api.Vector{1, -2, math.MinInt}), "1 -2 -9223372036854775808")
	expect(t, "zero", Vec{}, "0 0 0")
	long := api.Number(strings.Repeat("7", api.MaxNumber+1))
	longest := api.Number(strings.Repeat("7", api.MaxBytes+1))
	for _, c := range []struct {
		p           api.Point
		parse, read api.Errno
	}{
		{api.Point{"1/2", "-3", "0"}, api.OK, api.OK}, {api.Point{"0", "2/4", "x"}, api.ErrForm, api.ErrForm}, {api.Point{"x", "2/4", "0"}, api.ErrSyntax, api.ErrSyntax}, {api.Point{"1", "2", "1/0"}, api.ErrZero, api.ErrZero}, {api.Point{}, api.ErrSyntax, api.ErrSyntax}, {api.Point{"1", long, "x"}, api.ErrLong, api.ErrSyntax}, {api.Point{"1", long, "2"}, api.ErrLong, api.OK}, {api.Point{"1", "2", longest}, api.ErrLong, api.ErrLong},
	} {
		for i, f := range []func(api.Point) (Vec, api.Errno){Parse, Read} {
			v, e := f(c.p)
			if e != []api.Errno{c.parse, c.read}[i] || e == api.OK && v.Point() != c.p || e != api.OK && !IsZero(v) {
				t.Errorf("%d: %.30q: %d", i, c.p, e)
			}
		}
	}
	for _, c := range []struct {
		v Vec
		w api.Vector
		e api.Errno
	}{{Of(api.Vector{5, -6, 7}), api.Vector{5, -6, 7}, api.OK}, {parse(t, "1 2 1/2"), api.Vector{}, api.ErrForm}, {parse(t, "9223372036854775808 0 0"), api.Vector{}, api.ErrForm}, {parse(t, "0 -9223372036854775808 9223372036854775807"), api.Vector{0, math.MinInt, math.MaxInt}, api.OK}} {
		if w, e := c.v.Integers(); w != c.w || e != c.e {
			t.Errorf("Integers of %v = %v, %d", c.v.Point(), w, e)
		}
	}
}

// P3.2, P3.3
func TestCalculation(t *testing.T) {
	a, b := parse(t, "1 2 3"), parse(t, "4 5 6")
	expect(t, "Add", Add(a, b), "5 7 9")
	expect(t, "Sub", Sub(a, b), "-3 -3 -3")
	expect(t, "Neg", Neg(a), "-1 -2 -3")
	half, _ := rational.Parse("-1/2")
	expect(t, "Scale", Scale(a, half), "-1/2 -1 -3/2")
	expect(t, "Scale", Scale(a, rational.Rat{}), "0 0 0")
	expect(t, "Cross", Cross(a, b), "-3 6 -3")
	if n := Dot(a, b).Number(); n != "32" {
		t.Errorf("Dot = %s", n)
	}
	if n := Det(parse(t, "1 0 2"), parse(t, "0 3 0"), parse(t, "0 0 1/2")).Number(); n != "3/2" {
		t.Errorf("Det = %s", n)
	}
	expect(t, "a", a, "1 2 3")
}

// P3.4
func TestOrder(t *testing.T) {
	l := []Vec{parse(t, "-1 9 9"), parse(t, "0 -1/2 9"), parse(t, "0 -1/3 -9"), {}, parse(t, "0 0 1/9"), parse(t, "1/2 -1 -1")}
	for i, a := range l {
		for k, b := range l {
			want := 0
			if i < k {
				want = -1
			} else if i > k {
				want = 1
			}
			if Compare(a, b) != want || Equal(a, b) != (i == k) {
				t.Errorf("Compare of %d and %d = %d", i, k, Compare(a, b))
			}
		}
		if IsZero(a) != (i == 3) {
			t.Errorf("IsZero of %d", i)
		}
	}
	if IsZero(parse(t, "0 1 0")) || IsZero(parse(t, "1 0 0")) {
		t.Error("IsZero")
	}
}

// P3.5
func TestPrimitiveParallelOrient(t *testing.T) {
	for _, c := range [][2]string{{"-3 6 -3", "-1 2 -1"}, {"1/2 -1/3 0", "3 -2 0"}, {"0 0 -7/5", "0 0 -1"}, {"4 6 9", "4 6 9"}, {"2/3 4/9 -8/27", "9 6 -4"}, {"6/35 10/21 15/14", "36 100 225"}, {"-6 0 0", "-1 0 0"}, {"0 -10 15", "0 -2 3"}, {"-9223372036854775808 0 4", "-2305843009213693952 0 1"}, {"9223372036854775807 0 9223372036854775807", "1 0 1"}, {"100000000000000000000 0 -50000000000000000000", "2 0 -1"}} {
		v, e := Primitive(parse(t, c[0]))
		if expect(t, "Primitive", v, c[1]); e != api.OK {
			t.Errorf("Primitive(%s): %d", c[0], e)
		}
	}
	if v, e := Primitive(Vec{}); e != api.ErrZero || !IsZero(v) {
		t.Errorf("Primitive of 0: %d", e)
	}
	a := parse(t, "1/2 -1 3/2")
	for text, want := range map[string]bool{"1 -2 3": true, "-1 2 -3": true, "1/7 -2/7 3/7": true, "0 0 0": false, "1 -2 2": false, "1 2 3": false} {
		if b := parse(t, text); Parallel(a, b) != want || Parallel(b, a) != want {
			t.Errorf("Parallel(%v, %s)", a.Point(), text)
		}
	}
	if Parallel(Vec{}, Vec{}) {
		t.Error("0 is parallel to nothing")
	}
	o, x, y, z := Vec{}, parse(t, "1 0 0"), parse(t, "0 1 0"), parse(t, "0 0 1/9")
	if Orient(o, x, y, z) != 1 || Orient(x, o, y, z) != -1 || Orient(o, x, y, parse(t, "3 -8 0")) != 0 || Orient(o, o, y, z) != 0 {
		t.Error("Orient")
	}
}

// P3.6
func TestConsequences(t *testing.T) {
	l := samples(40)
	for i, a := range l {
		b, c, d := l[(i*7+1)%len(l)], l[(i*11+2)%len(l)], l[(i*13+3)%len(l)]
		k := d[0]
		if rational.Compare(Dot(Add(a, Scale(b, k)), c), rational.Add(Dot(a, c), rational.Mul(k, Dot(b, c)))) != 0 || !Equal(Cross(Add(a, Scale(b, k)), c), Add(Cross(a, c), Scale(Cross(b, c), k))) {
			t.Error("the products are not linear")
		}
		n := Cross(a, b)
		if Dot(n, a).Sign() != 0 || Dot(n, b).Sign() != 0 || !Equal(Cross(b, a), Neg(n)) {
			t.Error("the cross product is not perpendicular")
		}
		if rational.Compare(Det(a, b, c), Det(b, c, a)) != 0 {
			t.Error("Det changes if rotated")
		}
		if Parallel(a, b) != (!IsZero(a) && !IsZero(b) && IsZero(n)) || !IsZero(a) && !Parallel(a, Scale(a, rational.From(-3))) {
			t.Error("Parallel")
		}
		if Orient(a, b, c, d) != Orient(Add(a, d), Add(b, d), Add(c, d), Add(d, d)) || Orient(a, b, c, d) != -Orient(b, a, c, d) || Orient(a, b, c, d) != -Orient(a, b, d, c) {
			t.Error("Orient")
		}
		if back, e := Read(a.Point()); e != api.OK || !Equal(back, a) {
			t.Error("Read is not the inverse of Point")
		}
		if p, e := Primitive(a); e == api.OK {
			if q, _ := Primitive(p); !Equal(p, q) || !Parallel(p, a) || Dot(p, a).Sign() != 1 {
				t.Errorf("Primitive(%v) = %v", a.Point(), p.Point())
			}
		}
	}
}
