package clearance

import (
	"math/rand"
	"slices"
	"testing"

	"dowel/api"
	"dowel/cell"
	"dowel/meeting"
	"dowel/motion"
	"dowel/rational"
	"dowel/solid"
	"dowel/vector"
)

func box(x, y, z, a, b, c int) api.Cell {
	return api.Cell{Vertices: []api.Vector{{x, y, z}, {x, y, c}, {x, b, z}, {x, b, c}, {a, y, z}, {a, y, c}, {a, b, z}, {a, b, c}}}
}

func of(t *testing.T, cells ...api.Cell) solid.Solid {
	t.Helper()
	s, e := solid.Of(api.Part{Density: 1, Cells: cells}, api.Placement{Turn: [4]int{1, 0, 0, 0}, Shift: api.Point{"0", "0", "0"}})
	if e != api.OK {
		t.Fatalf("Of: %d", e)
	}
	return s
}

func vec(t *testing.T, x, y, z api.Number) vector.Vec {
	t.Helper()
	v, e := vector.Read(api.Point{x, y, z})
	if e != api.OK {
		t.Fatal(e)
	}
	return v
}

func rat(t *testing.T, n api.Number) rational.Rat {
	t.Helper()
	a, e := rational.Read(n)
	if e != api.OK {
		t.Fatal(e)
	}
	return a
}

func isZero(d api.Distance) bool {
	return d.Value == "" && d.A == api.Point{} && d.B == api.Point{} && d.Normals == nil
}

func empty() []solid.Solid {
	return []solid.Solid{{}, {Cells: []cell.Shape{{}}}}
}

// random returns a solid of a box and a tetrahedron.
func random(t *testing.T, r *rand.Rand) solid.Solid {
	t.Helper()
	x, y, z := r.Intn(7)-3, r.Intn(7)-3, r.Intn(7)-3
	return of(t, box(x, y, z, x+1, y+1+r.Intn(2), z+1), api.Cell{Vertices: []api.Vector{{x + 1, y, z}, {x + 1, y, z + 1 + r.Intn(2)}, {x + 1, y + 1, z}, {x + 3, y, z}}})
}

// P14.1
func TestNormSumGap(t *testing.T) {
	for _, c := range []struct {
		v         vector.Vec
		norm, sum api.Number
	}{{vec(t, "1", "-3", "2"), "3", "6"}, {vec(t, "0", "0", "0"), "0", "0"}, {vec(t, "-1/2", "1/3", "1/4"), "1/2", "13/12"}, {vec(t, "1", "1", "-9"), "9", "11"}} {
		if Norm(c.v).Number() != c.norm || Sum(c.v).Number() != c.sum {
			t.Errorf("%v: Norm %s, Sum %s", c.v.Point(), Norm(c.v).Number(), Sum(c.v).Number())
		}
	}
	a, b := of(t, box(0, 0, 0, 1, 1, 1)).Cells[0], of(t, box(3, 2, 0, 4, 3, 1)).Cells[0]
	for _, c := range []struct {
		n   vector.Vec
		gap api.Number
	}{{vec(t, "0", "1", "0"), "1"}, {vec(t, "1", "0", "0"), "2"}, {vec(t, "-1", "0", "0"), "-4"}, {vec(t, "1/2", "1/2", "0"), "3/2"}, {vec(t, "0", "0", "1"), "-1"}} {
		if g := Gap(a, b, c.n).Number(); g != c.gap {
			t.Errorf("Gap along %v = %s", c.n.Point(), g)
		}
	}
}

// P14.2
func TestCellsAndSolids(t *testing.T) {
	a := of(t, box(0, 0, 0, 1, 1, 1))
	for i, c := range []struct {
		b     solid.Solid
		value api.Number
	}{
		{of(t, box(3, 2, 0, 4, 3, 1)), "2"}, {of(t, box(1, 0, 0, 2, 1, 1)), "0"}, {a, "0"}, {of(t, box(-5, -5, -5, 5, 5, 5)), "0"}, {of(t, box(9, 9, 9, 10, 10, 10)), "8"}, {of(t, box(9, 0, 0, 10, 1, 1), box(0, 0, -4, 1, 1, -3)), "3"},
		// A vertex of the one against a slanted face of the other one.
		{of(t, api.Cell{Vertices: []api.Vector{{0, 3, 1}, {3, 0, 1}, {3, 3, 0}, {3, 3, 1}}}), "1/2"},
	} {
		d, e := Solids(a, c.b)
		if d.Value != c.value || e != api.OK || Verify(a, c.b, d) != api.OK {
			t.Errorf("%d: Solids = %v, %d, %d", i, d, e, Verify(a, c.b, d))
		}
		if d, e := Solids(c.b, a); d.Value != c.value || e != api.OK {
			t.Errorf("%d: Solids of the exchanged solids = %v, %d", i, d, e)
		}
	}
	d, e := Cells(a.Cells[0], of(t, box(3, 2, 0, 4, 3, 1)).Cells[0])
	if d.Value != "2" || !slices.Equal(d.Normals, []api.Point{{"1", "0", "0"}}) || e != api.OK {
		t.Errorf("Cells = %v, %d", d, e)
	}
	for i, b := range empty() {
		for _, l := range [][2]solid.Solid{{a, b}, {b, a}, {b, b}} {
			if d, e := Solids(l[0], l[1]); e != api.ErrEmpty || !isZero(d) {
				t.Errorf("%d: Solids: %d", i, e)
			}
			if e := Verify(l[0], l[1], api.Distance{Value: "x"}); e != api.ErrEmpty {
				t.Errorf("%d: Verify: %d", i, e)
			}
			if is, e := Within(l[0], l[1], rational.From(9)); is || e != api.ErrEmpty {
				t.Errorf("%d: Within: %d", i, e)
			}
			if l, e := Table(l[:]); l != nil || e != api.ErrEmpty {
				t.Errorf("%d: Table: %d", i, e)
			}
		}
		if v, r, e := Nearest(b, vec(t, "1", "2", "3")); !vector.IsZero(v) || r.Sign() != 0 || e != api.ErrEmpty {
			t.Errorf("%d: Nearest: %d", i, e)
		}
	}
	if d, e := Cells(a.Cells[0], cell.Shape{}); e != api.ErrEmpty || !isZero(d) {
		t.Errorf("Cells: %d", e)
	}
}

// P14.3
func TestVerify(t *testing.T) {
	a, b := of(t, box(0, 0, 0, 1, 1, 1)), of(t, box(3, 2, 0, 4, 3, 1), box(4, 0, 0, 5, 1, 1))
	p, q := api.Point{"1", "1", "0"}, api.Point{"3", "2", "0"}
	x, y := api.Point{"1", "0", "0"}, api.Point{"0", "1", "0"}
	half := api.Point{"3/4", "1/4", "0"}
	for i, c := range []struct {
		d api.Distance
		e api.Errno
	}{
		{api.Distance{Value: "2", A: p, B: q, Normals: []api.Point{x, x}}, api.OK}, {api.Distance{Value: "2", A: p, B: q, Normals: []api.Point{x, half}}, api.OK},
		{api.Distance{Value: "x", A: p, B: api.Point{}, Normals: []api.Point{{"2/4"}}}, api.ErrSyntax}, {api.Distance{Value: "1/0"}, api.ErrZero}, {api.Distance{Value: "2", A: api.Point{"2/4", "x", "0"}, B: q}, api.ErrForm}, {api.Distance{Value: "2", A: p, B: api.Point{"1", "1", "01"}}, api.ErrForm}, {api.Distance{Value: "2", A: p, B: q, Normals: []api.Point{{"1", "1/0", "0"}}}, api.ErrZero},
		{api.Distance{Value: "2", A: p, B: q, Normals: []api.Point{x}}, api.ErrSize}, {api.Distance{Value: "2", A: p, B: q}, api.ErrSize}, {api.Distance{Value: "0", A: p, B: q, Normals: []api.Point{x, x}}, api.ErrSize}, {api.Distance{Value: "2", A: p, B: q, Normals: []api.Point{x, x, x}}, api.ErrSize},
		{api.Distance{Value: "0", A: p, B: q}, api.ErrCertificate}, {api.Distance{Value: "0", A: p, B: p}, api.ErrCertificate}, {api.Distance{Value: "3", A: p, B: q, Normals: []api.Point{x, x}}, api.ErrCertificate}, {api.Distance{Value: "-2", A: p, B: q, Normals: []api.Point{x, x}}, api.ErrCertificate}, {api.Distance{Value: "3", A: api.Point{"0", "1", "0"}, B: q, Normals: []api.Point{x, x}}, api.ErrCertificate},
		{api.Distance{Value: "2", A: q, B: api.Point{"5", "2", "0"}, Normals: []api.Point{x, x}}, api.ErrCertificate}, {api.Distance{Value: "2", A: p, B: q, Normals: []api.Point{x, y}}, api.ErrCertificate}, {api.Distance{Value: "2", A: p, B: q, Normals: []api.Point{x, {"2", "0", "0"}}}, api.ErrCertificate}, {api.Distance{Value: "2", A: p, B: q, Normals: []api.Point{{"-1", "0", "0"}, x}}, api.ErrCertificate}, {api.Distance{Value: "2", A: p, B: q, Normals: []api.Point{{"1", "1", "0"}, x}}, api.ErrCertificate},
	} {
		if e := Verify(a, b, c.d); e != c.e {
			t.Errorf("%d: Verify: %d, not %d", i, e, c.e)
		}
	}
	near := of(t, box(1, 0, 0, 2, 1, 1))
	if e := Verify(a, near, api.Distance{Value: "0", A: x, B: x}); e != api.OK {
		t.Errorf("Verify: %d", e)
	}
}

// P14.4
func TestWithinAndTable(t *testing.T) {
	a, b := of(t, box(0, 0, 0, 1, 1, 1)), of(t, box(9, 0, 0, 10, 1, 1), box(3, 2, 0, 4, 3, 1))
	for n, want := range map[api.Number]bool{"2": true, "3": true, "19/10": false, "0": false, "-1": false} {
		if is, e := Within(a, b, rat(t, n)); is != want || e != api.OK {
			t.Errorf("Within(%s) = %t, %d", n, is, e)
		}
	}
	if is, _ := Within(a, a, rational.Rat{}); !is {
		t.Error("Within of a solid and itself")
	}
	table, e := Table([]solid.Solid{a, b, of(t, box(0, 0, 4, 1, 1, 5))})
	want := [][]api.Number{{"0", "2", "3"}, {"2", "0", "3"}, {"3", "3", "0"}}
	if !slices.EqualFunc(table, want, func(x, y []api.Number) bool { return slices.Equal(x, y) }) || e != api.OK {
		t.Errorf("Table = %s, %d", table, e)
	}
	if table, e := Table(nil); len(table) != 0 || e != api.OK {
		t.Errorf("Table = %s, %d", table, e)
	}
}

// P14.5
func TestNearest(t *testing.T) {
	s := of(t, box(0, 0, 0, 1, 1, 1), box(3, 0, 0, 4, 1, 1))
	for i, c := range []struct {
		p        vector.Vec
		distance api.Number
	}{{vec(t, "1/2", "1/2", "1/2"), "0"}, {vec(t, "5", "0", "0"), "1"}, {vec(t, "9/4", "1/2", "3"), "2"}, {vec(t, "-1", "-3", "0"), "3"}, {vec(t, "1", "1", "1"), "0"}} {
		v, d, e := Nearest(s, c.p)
		where, _ := solid.Locate(s, v)
		if d.Number() != c.distance || e != api.OK || where == cell.Outside || rational.Compare(Norm(vector.Sub(v, c.p)), d) != 0 {
			t.Errorf("%d: Nearest = %v, %s, %d", i, v.Point(), d.Number(), e)
		}
	}
}

// P14.6
func TestConsequences(t *testing.T) {
	r := rand.New(rand.NewSource(1))
	quarters := motion.Quarters()
	zeros := 0
	for range 40 {
		a, b := random(t, r), random(t, r)
		d, e := Solids(a, b)
		if e != api.OK || Verify(a, b, d) != api.OK {
			t.Fatalf("Solids = %v, %d, %d", d, e, Verify(a, b, d))
		}
		value := rat(t, d.Value)
		if d.Value == "0" {
			zeros++
		}
		if back, _ := Solids(b, a); back.Value != d.Value {
			t.Fatalf("the distance is %s, and back %s", d.Value, back.Value)
		}
		m, _ := motion.Of(api.Placement{Turn: quarters[r.Intn(24)], Shift: api.Point{"1/3", "-5", "7"}})
		if x, _ := Solids(solid.Move(a, m), solid.Move(b, m)); x.Value != d.Value {
			t.Fatalf("the distance is %s, and turned %s", d.Value, x.Value)
		}
		v := vec(t, "1", "-1/2", "2/3")
		x, _ := Solids(solid.Shift(a, v), b)
		if rational.Compare(rational.Abs(rational.Sub(rat(t, x.Value), value)), Norm(v)) > 0 {
			t.Fatalf("the distance is %s, and shifted %s", d.Value, x.Value)
		}
		isApart := true
		for _, c := range a.Cells {
			for _, o := range b.Cells {
				isApart = isApart && meeting.Status(c, o) == api.Apart
				if part, _ := Cells(c, o); rational.Compare(rat(t, part.Value), value) < 0 {
					t.Fatalf("the distance of cells is %s, that of the solids %s", part.Value, d.Value)
				}
			}
		}
		if isApart != (value.Sign() > 0) {
			t.Fatalf("the distance is %s, apart: %t", d.Value, isApart)
		}
	}
	if zeros == 0 || zeros == 40 {
		t.Errorf("%d distances are 0", zeros)
	}
}

func BenchmarkCells(b *testing.B) {
	at := func(x int) cell.Shape {
		s, _ := cell.Of(box(x, x, 0, x+1, x+1, 1))
		return s
	}
	x, y := at(0), at(5)
	for b.Loop() {
		Cells(x, y)
	}
}
