package pair

import (
	"math"
	"math/rand"
	"slices"
	"strings"
	"testing"

	"dowel/api"
	"dowel/assembly"
	"dowel/cone"
	"dowel/motion"
	"dowel/twist"
)

func box(x, y, z, a, b, c int) api.Cell {
	return api.Cell{Vertices: []api.Vector{{x, y, z}, {x, y, c}, {x, b, z}, {x, b, c}, {a, y, z}, {a, y, c}, {a, b, z}, {a, b, c}}}
}

// build returns an assembly whose instances stay where the cells of their parts are.
func build(parts ...[]api.Cell) api.Assembly {
	var a api.Assembly
	for i, cells := range parts {
		name := string(rune('a' + i))
		a.Parts = append(a.Parts, api.Part{Name: name, Density: 1, Cells: cells})
		a.Instances = append(a.Instances, api.Instance{Name: name, Part: name, Place: api.Placement{Turn: [4]int{1, 0, 0, 0}, Shift: api.Point{"0", "0", "0"}}})
	}
	return a
}

func point(text string) api.Point {
	var p api.Point
	for i, word := range strings.Fields(text) {
		p[i] = api.Number(word)
	}
	return p
}

func numbers(text string) [][]api.Number {
	var l [][]api.Number
	for part := range strings.SplitSeq(text, ",") {
		var v []api.Number
		for word := range strings.FieldsSeq(part) {
			v = append(v, api.Number(word))
		}
		if len(v) > 0 {
			l = append(l, v)
		}
	}
	return l
}

func coneOf(t *testing.T, lines, rays string) cone.Cone {
	t.Helper()
	c, e := cone.Generate(6, numbers(lines), numbers(rays))
	if e != api.OK {
		t.Fatalf("Generate: %d", e)
	}
	return c
}

func joint1(kind, degrees int, closed bool, direction, at string, pitch api.Number) Joint {
	return Joint{kind, degrees, closed, point(direction), point(at), pitch}
}

// samples returns valid pairs of all kinds.
func samples() []Joint {
	return []Joint{
		joint1(Fixed, 0, true, "", "", ""), joint1(Revolute, 1, true, "0 0 1", "1 0 0", ""), joint1(Revolute, 1, false, "1 -2 0", "2 1 1/2", ""), joint1(Prismatic, 1, true, "0 3 -1", "", ""), joint1(Helical, 1, true, "0 0 1", "1 0 0", "2"), joint1(Helical, 1, false, "1 1 1", "1 -1 0", "-1/3"), joint1(Cylindrical, 2, true, "0 0 1", "1 0 0", ""), joint1(Cylindrical, 2, false, "2 0 -1", "1 7 2", ""), joint1(Spherical, 3, true, "", "0 0 0", ""), joint1(Spherical, 3, false, "", "1/2 -3 5", ""), joint1(Planar, 3, true, "0 0 1", "", ""), joint1(Planar, 3, false, "1 2 -2", "", ""), joint1(Planar, 3, false, "1 0 0", "", ""), joint1(Free, 6, true, "", "", ""),
	}
}

// P19.1
func TestClassify(t *testing.T) {
	for _, c := range []struct {
		lines, rays string
		want        Joint
	}{
		{"", "", joint1(Fixed, 0, true, "", "", "")}, {"", "0 0 0 1 0 0", joint1(Fixed, 0, false, "", "", "")},
		{"0 0 1 0 -1 0", "", joint1(Revolute, 1, true, "0 0 1", "1 0 0", "")}, {"0 0 -3 0 3 0", "0 0 0 0 0 1", joint1(Revolute, 1, false, "0 0 1", "1 0 0", "")}, {"0 0 0 0 -2 4", "", joint1(Prismatic, 1, true, "0 1 -2", "", "")}, {"0 0 1 0 -1 2", "", joint1(Helical, 1, true, "0 0 1", "1 0 0", "2")}, {"0 0 -1 0 1 -2", "", joint1(Helical, 1, true, "0 0 1", "1 0 0", "2")},
		{"0 0 1 0 -1 0,0 0 0 0 0 1", "", joint1(Cylindrical, 2, true, "0 0 1", "1 0 0", "")}, {"0 0 1 0 -1 5,0 0 0 0 0 1", "", joint1(Cylindrical, 2, true, "0 0 1", "1 0 0", "")}, {"1 0 0 0 0 0,0 1 0 0 0 0", "", joint1(Other, 2, true, "", "", "")}, {"0 0 1 0 0 0,0 0 0 1 0 0", "", joint1(Other, 2, true, "", "", "")}, {"0 0 0 0 0 1,0 0 0 1 0 0", "", joint1(Other, 2, true, "", "", "")},
		{"1 0 0 0 0 0,0 1 0 0 0 0,0 0 1 0 0 0", "", joint1(Spherical, 3, true, "", "0 0 0", "")}, {"1 0 0 0 3 -2,0 1 0 -3 0 1,0 0 1 2 -1 0", "", joint1(Spherical, 3, true, "", "1 2 3", "")}, {"1 0 0 0 3 -2,0 1 0 -3 0 1,0 0 1 2 -1 1", "", joint1(Other, 3, true, "", "", "")},
		{"0 0 1 5 -1 0,0 0 0 1 0 0,0 0 0 0 1 0", "", joint1(Planar, 3, true, "0 0 1", "", "")}, {"0 0 1 5 -1 1,0 0 0 1 0 0,0 0 0 0 1 0", "", joint1(Other, 3, true, "", "", "")}, {"0 0 0 0 0 1,0 0 0 1 0 0,0 0 0 0 1 0", "", joint1(Other, 3, true, "", "", "")}, {"0 0 1 0 0 0,0 0 0 1 0 0,0 0 0 0 0 1", "", joint1(Other, 3, true, "", "", "")},
		{"1 0 0 0 0 0,0 1 0 0 0 0,0 0 1 0 0 0,0 0 0 1 0 0", "0 0 0 0 1 0", joint1(Other, 4, false, "", "", "")}, {"1 0 0 0 0 0,0 1 0 0 0 0,0 0 1 0 0 0,0 0 0 1 0 0,0 0 0 0 1 0,0 0 0 0 0 1", "", joint1(Free, 6, true, "", "", "")}, {"1 0 0 0 0 0,0 1 0 0 0 0,0 0 1 0 0 0,0 0 0 1 0 0,0 0 0 0 1 0", "", joint1(Other, 5, true, "", "", "")},
	} {
		if j, e := Classify(coneOf(t, c.lines, c.rays)); j != c.want || e != api.OK {
			t.Errorf("Classify(%s; %s) = %v, %d", c.lines, c.rays, j, e)
		}
	}
	for i, c := range []struct {
		c cone.Cone
		e api.Errno
	}{{cone.Cone{}, api.ErrRange}, {cone.Cone{Dim: 5}, api.ErrSize}, {cone.Cone{Dim: 6, Lines: numbers("2 0 0 0 0 0")}, api.ErrForm}, {cone.Cone{Dim: 3, Lines: numbers("2 0 0")}, api.ErrForm}} {
		if j, e := Classify(c.c); j != (Joint{}) || e != c.e {
			t.Errorf("%d: Classify = %v, %d", i, j, e)
		}
	}
}

// peg is a peg (1) in a square hole of a plate (0).
func peg() api.Assembly {
	return build([]api.Cell{box(0, 0, 0, 3, 1, 1), box(0, 2, 0, 3, 3, 1), box(0, 1, 0, 1, 2, 1), box(2, 1, 0, 3, 2, 1)}, []api.Cell{box(1, 1, -1, 2, 2, 2)})
}

// P19.2, P19.3
func TestOfAndTable(t *testing.T) {
	block := build([]api.Cell{box(-1, -1, -1, 2, 2, 0)}, []api.Cell{box(0, 0, 0, 1, 1, 1)}, []api.Cell{box(1, 1, 0, 2, 2, 1)})
	if j, e := Of(block, []int{1}, []int{0}); j != joint1(Planar, 3, false, "0 0 1", "", "") || e != api.OK {
		t.Errorf("Of = %v, %d", j, e)
	}
	if j, e := Of(block, []int{1}, []int{2}); j != joint1(Free, 6, true, "", "", "") || e != api.OK {
		t.Errorf("Of = %v, %d", j, e)
	}
	if j, e := Of(peg(), []int{1}, []int{0}); j != joint1(Prismatic, 1, true, "0 0 1", "", "") || e != api.OK {
		t.Errorf("Of = %v, %d", j, e)
	}
	if j, e := Of(block, []int{1}, []int{1}); j != (Joint{}) || e != api.ErrConflict {
		t.Errorf("Of = %v, %d", j, e)
	}
	// 1 and 2 touch at an edge only, which is not proper.
	l, e := Table(block)
	want := []Entry{{0, 1, joint1(Planar, 3, false, "0 0 1", "", "")}, {0, 2, joint1(Planar, 3, false, "0 0 1", "", "")}}
	if !slices.Equal(l, want) || e != api.OK {
		t.Errorf("Table = %v, %d", l, e)
	}
	thick := build([]api.Cell{box(0, 0, 0, 2, 2, 2)}, []api.Cell{box(1, 1, 1, 3, 3, 3)})
	if l, e := Table(thick); l != nil || e != api.ErrPenetrate {
		t.Errorf("Table: %d", e)
	}
	if l, e := Table(api.Assembly{}); len(l) != 0 || e != api.OK {
		t.Errorf("Table: %d", e)
	}
	// Seven contacts have more rows than a cone may have.
	var steps, on []api.Cell
	for k := range 6 {
		steps = append(steps, box(10*k, 0, 0, 10*k+10, 10, 20+k))
		on = append(on, box(10*k, 0, 20+k, 10*k+10, 10, 40))
	}
	if l, e := Table(build(steps, on)); l != nil || e != api.ErrLimit {
		t.Errorf("Table: %d", e)
	}
}

// P19.4
func TestCheck(t *testing.T) {
	for i, j := range samples() {
		if e := Check(j); e != api.OK {
			t.Errorf("%d: Check: %d", i, e)
		}
	}
	for i, c := range []struct {
		j Joint
		e api.Errno
	}{
		{joint1(-1, 0, false, "", "", ""), api.ErrKind}, {joint1(9, 0, false, "", "", ""), api.ErrKind}, {joint1(Fixed, 1, false, "x 0 0", "", ""), api.ErrRange}, {joint1(Revolute, 2, false, "", "", ""), api.ErrRange}, {joint1(Other, 1, false, "", "", ""), api.ErrRange}, {joint1(Other, 6, false, "", "", ""), api.ErrRange}, {joint1(Other, 2, false, "", "", ""), api.OK}, {joint1(Other, 5, true, "", "", ""), api.OK}, {joint1(Free, 6, false, "x", "", ""), api.ErrForm},
		{joint1(Revolute, 1, true, "0 0 2/4", "x 0 0", ""), api.ErrForm}, {joint1(Revolute, 1, true, "", "", ""), api.ErrSyntax}, {joint1(Revolute, 1, true, "0 0 0", "x 0 0", ""), api.ErrForm}, {joint1(Revolute, 1, true, "0 0 2", "x 0 0", ""), api.ErrForm}, {joint1(Revolute, 1, true, "0 0 -1", "x 0 0", ""), api.ErrForm}, {joint1(Revolute, 1, true, "0 0 1/2", "x 0 0", ""), api.ErrForm}, {joint1(Revolute, 1, true, "0 0 1", "1/0 0 0", "1"), api.ErrZero}, {joint1(Revolute, 1, true, "0 0 1", "", "1"), api.ErrSyntax}, {joint1(Revolute, 1, true, "0 0 1", "1 0 1", "x"), api.ErrForm}, {joint1(Revolute, 1, true, "0 0 1", "1 0 0", "1"), api.ErrForm},
		{joint1(Helical, 1, true, "0 0 1", "1 0 0", ""), api.ErrSyntax}, {joint1(Helical, 1, true, "0 0 1", "1 0 0", "0"), api.ErrForm}, {joint1(Helical, 1, true, "0 0 1", "1 0 0", "1/0"), api.ErrZero}, {joint1(Prismatic, 1, true, "0 0 1", "0 0 0", ""), api.ErrForm}, {joint1(Fixed, 0, true, "0 0 1", "", ""), api.ErrForm}, {joint1(Spherical, 3, true, "0 0 1", "0 0 0", ""), api.ErrForm}, {joint1(Spherical, 3, true, "", "0 x 0", ""), api.ErrSyntax}, {joint1(Free, 6, true, "", "", "0"), api.ErrForm}, {joint1(Other, 3, true, "", "0 0 0", ""), api.ErrForm},
	} {
		if e := Check(c.j); e != c.e {
			t.Errorf("%d: Check: %d, not %d", i, e, c.e)
		}
		if c.e == api.OK {
			continue
		}
		if l, e := Lines(c.j); l != nil || e != c.e {
			t.Errorf("%d: Lines: %d", i, e)
		}
		if j, e := Move(c.j, api.Placement{}); j != (Joint{}) || e != c.e {
			t.Errorf("%d: Move: %d", i, e)
		}
	}
}

// P19.4, P19.5, P19.6: of all numbers of degrees, only those of the table are valid.
func TestDegrees(t *testing.T) {
	stay := api.Placement{Turn: [4]int{1, 0, 0, 0}, Shift: api.Point{"0", "0", "0"}}
	valid := map[int][]int{Fixed: {0}, Revolute: {1}, Prismatic: {1}, Helical: {1}, Cylindrical: {2}, Spherical: {3}, Planar: {3}, Free: {6}, Other: {2, 3, 4, 5}}
	for _, j := range append(samples(), joint1(Other, 2, false, "", "", "")) {
		for _, n := range []int{math.MinInt, -2, -1, 0, 1, 2, 3, 4, 5, 6, 7, 8, math.MaxInt} {
			j.Degrees = n
			want := api.ErrRange
			if slices.Contains(valid[j.Kind], n) {
				want = api.OK
			}
			if e := Check(j); e != want {
				t.Errorf("%+v: Check: %d, not %d", j, e, want)
			}
			if want == api.OK {
				continue
			}
			if l, e := Lines(j); l != nil || e != want {
				t.Errorf("%+v: Lines: %v, %d", j, l, e)
			}
			if k, e := Move(j, stay); k != (Joint{}) || e != want {
				t.Errorf("%+v: Move: %v, %d", j, k, e)
			}
		}
	}
}

// P19.5
func TestLines(t *testing.T) {
	for i, c := range []struct {
		j    Joint
		want string
	}{
		{joint1(Fixed, 0, false, "", "", ""), ""}, {joint1(Revolute, 1, true, "0 0 1", "1 0 0", ""), "0 0 1 0 -1 0"}, {joint1(Prismatic, 1, true, "0 3 -1", "", ""), "0 0 0 0 3 -1"}, {joint1(Helical, 1, true, "0 0 1", "1 0 0", "2"), "0 0 1 0 -1 2"}, {joint1(Cylindrical, 2, true, "0 0 1", "1 0 0", ""), "0 0 1 0 -1 0,0 0 0 0 0 1"}, {joint1(Spherical, 3, true, "", "1 2 3", ""), "1 0 0 0 3 -2,0 1 0 -3 0 1,0 0 1 2 -1 0"},
		{joint1(Planar, 3, true, "0 0 1", "", ""), "0 0 1 0 0 0,0 0 0 0 1 0,0 0 0 -1 0 0"}, {joint1(Planar, 3, true, "1 0 0", "", ""), "1 0 0 0 0 0,0 0 0 0 0 1,0 0 0 0 -1 0"}, {joint1(Planar, 3, true, "0 1 1", "", ""), "0 1 1 0 0 0,0 0 0 0 1 -1,0 0 0 -1 0 0"}, {joint1(Planar, 3, true, "1 1 0", "", ""), "1 1 0 0 0 0,0 0 0 0 0 -1,0 0 0 1 -1 0"},
		{joint1(Free, 6, true, "", "", ""), "1 0 0 0 0 0,0 1 0 0 0 0,0 0 1 0 0 0,0 0 0 1 0 0,0 0 0 0 1 0,0 0 0 0 0 1"},
	} {
		l, e := Lines(c.j)
		var got [][]api.Number
		for _, x := range l {
			got = append(got, x[:])
		}
		if !slices.EqualFunc(got, numbers(c.want), func(a, b []api.Number) bool { return slices.Equal(a, b) }) || e != api.OK {
			t.Errorf("%d: Lines = %s, %d", i, got, e)
		}
	}
	if l, e := Lines(joint1(Other, 3, true, "", "", "")); l != nil || e != api.ErrKind {
		t.Errorf("Lines: %d", e)
	}
}

// P19.6
func TestMoveAndName(t *testing.T) {
	p := api.Placement{Turn: [4]int{1, 0, 1, 0}, Shift: point("0 5 1/2")}
	for i, c := range []struct{ j, want Joint }{
		{joint1(Revolute, 1, false, "0 0 1", "1 0 0", ""), joint1(Revolute, 1, false, "1 0 0", "0 5 -1/2", "")}, {joint1(Prismatic, 1, true, "1 0 0", "", ""), joint1(Prismatic, 1, true, "0 0 1", "", "")}, {joint1(Helical, 1, true, "1 0 0", "0 1 0", "-2"), joint1(Helical, 1, true, "0 0 1", "0 6 0", "-2")}, {joint1(Spherical, 3, false, "", "1 2 3", ""), joint1(Spherical, 3, false, "", "3 7 -1/2", "")}, {joint1(Other, 4, true, "", "", ""), joint1(Other, 4, true, "", "", "")}, {joint1(Fixed, 0, false, "", "", ""), joint1(Fixed, 0, false, "", "", "")}, {joint1(Free, 6, true, "", "", ""), joint1(Free, 6, true, "", "", "")},
	} {
		if j, e := Move(c.j, p); j != c.want || e != api.OK {
			t.Errorf("%d: Move = %v, %d", i, j, e)
		}
	}
	if j, e := Move(joint1(Other, 4, true, "", "", ""), api.Placement{}); j != (Joint{}) || e != api.ErrZero {
		t.Errorf("Move: %d", e)
	}
	for i, want := range []string{"fixed", "revolute", "prismatic", "helical", "cylindrical", "spherical", "planar", "free", "other"} {
		if name, ok := Name(i); name != want || !ok {
			t.Errorf("Name(%d) = %s, %t", i, name, ok)
		}
	}
	for _, i := range []int{-1, 9} {
		if name, ok := Name(i); name != "" || ok {
			t.Errorf("Name(%d) = %s, %t", i, name, ok)
		}
	}
}

// P19.6, P19.7
func TestConsequences(t *testing.T) {
	r := rand.New(rand.NewSource(1))
	for _, j := range samples() {
		p := api.Placement{Turn: [4]int{1, r.Intn(3) - 1, 2, r.Intn(3) - 1}, Shift: point("1/2 -3 7")}
		m, _ := motion.Of(p)
		l, _ := Lines(j)
		var lines, moved [][]api.Number
		for _, x := range l {
			y, _ := twist.Parse(x)
			n := twist.Move(y, m).Numbers()
			lines, moved = append(lines, x[:]), append(moved, n[:])
		}
		closed, _ := cone.Generate(6, lines, nil)
		back, e := Classify(closed)
		want := j
		want.Closed = true
		if back != want || e != api.OK {
			t.Errorf("Classify of the lines of %v = %v, %d", j, back, e)
		}
		c, _ := cone.Generate(6, moved, nil)
		there, e1 := Move(want, p)
		if found, e := Classify(c); found != there || e != api.OK || e1 != api.OK {
			t.Errorf("Move of %v = %v, but the lines are those of %v", j, there, found)
		}
	}
}

// P19.7
func TestPairsOfAssemblies(t *testing.T) {
	p := api.Placement{Turn: [4]int{2, 1, 0, 0}, Shift: point("1 2 3")}
	for i, a := range []api.Assembly{peg(), build([]api.Cell{box(-1, -1, -1, 2, 2, 0)}, []api.Cell{box(0, 0, 0, 1, 1, 1)})} {
		j, _ := Of(a, []int{1}, []int{0})
		back, _ := Of(a, []int{0}, []int{1})
		if back != j {
			t.Errorf("%d: the pair is %v, and back %v", i, j, back)
		}
		b, e := assembly.Move(a, p)
		moved, e1 := Of(b, []int{1}, []int{0})
		if want, _ := Move(j, p); moved != want || e != api.OK || e1 != api.OK {
			t.Errorf("%d: the moved pair is %v, not %v", i, moved, want)
		}
	}
	// With a bottom the peg can still go out on one side.
	a := peg()
	a.Parts[0].Cells = append(a.Parts[0].Cells, box(1, 1, -2, 2, 2, -1))
	if j, e := Of(a, []int{1}, []int{0}); j != joint1(Fixed, 0, false, "", "", "") || e != api.OK {
		t.Errorf("Of = %v, %d", j, e)
	}
}
