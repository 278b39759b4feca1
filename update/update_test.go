package update

import (
	"math/rand"
	"slices"
	"testing"

	"dowel/api"
	"dowel/assembly"
	"dowel/blocking"
	"dowel/rational"
)

func box(x, y, z, a, b, c int) api.Cell {
	return api.Cell{Vertices: []api.Vector{{x, y, z}, {x, y, c}, {x, b, z}, {x, b, c}, {a, y, z}, {a, y, c}, {a, b, z}, {a, b, c}}}
}

func cube(name string, size int) api.Part {
	return api.Part{Name: name, Density: 1, Cells: []api.Cell{box(0, 0, 0, size, size, size)}}
}

func at(name, part string, x, y, z int) api.Instance {
	n := func(i int) api.Number { return rational.From(i).Number() }
	return api.Instance{Name: name, Part: part, Place: api.Placement{Turn: [4]int{1, 0, 0, 0}, Shift: api.Point{n(x), n(y), n(z)}}}
}

// row is three cubes side by side.
func row() api.Assembly {
	return api.Assembly{Parts: []api.Part{cube("cube", 1), cube("other", 1)}, Instances: []api.Instance{at("a", "cube", 0, 0, 0), at("b", "cube", 1, 0, 0), at("c", "cube", 2, 0, 0)}}
}

func x() api.Point { return api.Point{"1", "0", "0"} }

func z() api.Point { return api.Point{"0", "0", "1"} }

func table(t *testing.T, a api.Assembly, kind int, directions ...api.Point) *Table {
	t.Helper()
	b, e := New(a, kind, directions)
	if e != api.OK {
		t.Fatalf("New: %d", e)
	}
	return b
}

// same reports whether two tables have the same contents, but for the last changes.
func same(t *testing.T, a, b *Table) bool {
	t.Helper()
	for i := range a.directions {
		l, _ := a.Arcs(i)
		m, _ := b.Arcs(i)
		if !slices.Equal(l, m) {
			return false
		}
	}
	return assembly.Equal(a.assembly, b.assembly) && slices.Equal(a.directions, b.directions) && len(a.arcs) == len(b.arcs)
}

func expect(t *testing.T, b *Table, e api.Errno, tests int, want ...Change) {
	t.Helper()
	l, f := b.Changes()
	if e != api.OK || f != api.OK || !slices.Equal(l, want) || b.Tests() != tests {
		t.Errorf("%d: the changes are %v, not %v; %d tests", e, l, want, b.Tests())
	}
}

func lost(from, to int) Change  { return Change{0, false, api.Arc{From: from, To: to}} }
func gains(from, to int) Change { return Change{0, true, api.Arc{From: from, To: to}} }

// P23.1, P23.2
func TestNew(t *testing.T) {
	b := table(t, row(), api.Local, x(), z(), x())
	if b.Tests() != 18 {
		t.Errorf("Tests = %d", b.Tests())
	}
	want := []api.Arc{{From: 0, To: 1}, {From: 1, To: 2}}
	for i, w := range [][]api.Arc{want, nil, want} {
		if l, e := b.Arcs(i); !slices.Equal(l, w) || e != api.OK {
			t.Errorf("Arcs(%d) = %v, %d", i, l, e)
		}
	}
	for _, i := range []int{-1, 3} {
		if l, e := b.Arcs(i); l != nil || e != api.ErrRange {
			t.Errorf("Arcs(%d): %d", i, e)
		}
	}
	if a, e := b.Assembly(); !assembly.Equal(a, row()) || e != api.OK {
		t.Errorf("Assembly: %d", e)
	}
	if l, e := b.Directions(); !slices.Equal(l, []api.Point{x(), z(), x()}) || e != api.OK {
		t.Errorf("Directions = %v, %d", l, e)
	}
	if l, e := b.Changes(); len(l) != 0 || e != api.OK {
		t.Errorf("Changes = %v, %d", l, e)
	}
	thick := row()
	thick.Instances[1] = at("b", "other", 0, 0, 0)
	unknown := row()
	unknown.Instances[1].Part = "none"
	for i, c := range []struct {
		a    api.Assembly
		kind int
		l    []api.Point
		e    api.Errno
	}{
		{thick, 0, nil, api.ErrPenetrate}, {unknown, 0, nil, api.ErrUnknown}, {row(), 0, make([]api.Point, 65), api.ErrKind}, {row(), api.Far, make([]api.Point, 65), api.ErrLimit}, {row(), api.Far, []api.Point{x(), {"0", "0", "0"}, {}}, api.ErrZero}, {row(), api.Far, []api.Point{x(), {"2", "0", "0"}, {}}, api.ErrForm}, {row(), api.Far, slices.Repeat([]api.Point{x()}, 64), api.OK}, {api.Assembly{}, api.Far, nil, api.OK},
	} {
		if b, e := New(c.a, c.kind, c.l); e != c.e || (b != nil) != (e == api.OK) {
			t.Errorf("%d: New: %d, not %d", i, e, c.e)
		}
	}
}

// P23.3, P23.5
func TestEdits(t *testing.T) {
	b := table(t, row(), api.Local, x(), z())
	expect(t, b, b.Replace(2, at("c", "cube", 5, 0, 0)), 20, lost(1, 2))
	expect(t, b, b.Remove(1), 20, lost(0, 1))
	if l, _ := b.Arcs(0); len(l) != 0 || len(b.assembly.Instances) != 2 || b.assembly.Instances[1].Name != "c" {
		t.Errorf("Arcs = %v", l)
	}
	expect(t, b, b.Add(at("d", "other", 6, 0, 0)), 28, gains(1, 2))
	expect(t, b, b.Add(at("e", "other", -2, 0, 0)), 40)
	// Only the pairs with an instance of the part are examined.
	expect(t, b, b.Part(cube("other", 2)), 60, gains(3, 0))
	b = table(t, row(), api.Local, x())
	expect(t, b, b.Replace(0, at("a", "other", 3, 0, 0)), 10, lost(0, 1), gains(2, 0))
	// Removing an instance shifts the indices of the others, which is no change.
	expect(t, b, b.Remove(1), 10, lost(1, 2))
	if l, _ := b.Arcs(0); !slices.Equal(l, []api.Arc{{From: 1, To: 0}}) {
		t.Errorf("Arcs = %v", l)
	}
	expect(t, b, b.Remove(0), 10, lost(1, 0))
}

// P23.3, P23.4
func TestErrorsOfEdits(t *testing.T) {
	b := table(t, row(), api.Local, x(), z())
	if e := b.Replace(2, at("c", "cube", 5, 0, 0)); e != api.OK {
		t.Fatal(e)
	}
	before := b.Clone()
	bad := cube("cube", 1)
	bad.Density = 0
	full := table(t, api.Assembly{Parts: row().Parts}, api.Far, x())
	for i := range 12 {
		if e := full.Add(at(string(rune('a'+i)), "cube", 2*i, 0, 0)); e != api.OK {
			t.Fatal(e)
		}
	}
	for i, c := range []struct{ got, want api.Errno }{
		{b.Replace(3, api.Instance{}), api.ErrRange}, {b.Replace(-1, api.Instance{}), api.ErrRange}, {b.Replace(0, api.Instance{}), api.ErrName}, {b.Replace(0, at("c", "cube", 9, 0, 0)), api.ErrDuplicate}, {b.Replace(0, at("a", "none", 9, 0, 0)), api.ErrUnknown}, {b.Replace(0, at("a", "cube", 1, 0, 0)), api.ErrPenetrate},
		{b.Add(at("a", "cube", 9, 0, 0)), api.ErrDuplicate}, {b.Add(at("d", "cube", 5, 0, 0)), api.ErrPenetrate}, {full.Add(at("z", "cube", 99, 0, 0)), api.ErrLimit}, {b.Remove(3), api.ErrRange}, {b.Remove(-1), api.ErrRange}, {b.Part(cube("none", 1)), api.ErrUnknown}, {b.Part(bad), api.ErrRange}, {b.Part(cube("cube", 2)), api.ErrPenetrate},
		{b.Turn(2, api.Point{}), api.ErrRange}, {b.Turn(-1, api.Point{}), api.ErrRange}, {b.Turn(0, api.Point{"0", "0", "0"}), api.ErrZero}, {b.Turn(0, api.Point{"0", "0", "3"}), api.ErrForm},
	} {
		if c.got != c.want {
			t.Errorf("%d: %d, not %d", i, c.got, c.want)
		}
	}
	if !same(t, b, before) || b.Tests() != before.Tests() || !slices.Equal(b.changes, before.changes) || len(b.changes) == 0 {
		t.Error("an edit with an error has changed something")
	}
}

// P23.4
func TestTurn(t *testing.T) {
	b := table(t, row(), api.Local, x(), z())
	expect(t, b, b.Turn(0, z()), 18, lost(0, 1), lost(1, 2))
	expect(t, b, b.Turn(1, api.Point{"-1", "0", "0"}), 24, Change{1, true, api.Arc{From: 1, To: 0}}, Change{1, true, api.Arc{From: 2, To: 1}})
	// An arc with another time is another arc.
	far := table(t, row(), api.Far, x())
	e := far.Turn(0, api.Point{"2", "1", "0"})
	expect(t, far, e, 12, Change{0, false, api.Arc{From: 0, To: 1, Time: "1"}}, Change{0, false, api.Arc{From: 0, To: 2, Time: "2"}}, Change{0, false, api.Arc{From: 1, To: 2, Time: "1"}}, Change{0, true, api.Arc{From: 0, To: 1, Time: "1/2"}}, Change{0, true, api.Arc{From: 0, To: 2, Time: "3/4"}}, Change{0, true, api.Arc{From: 1, To: 2, Time: "1/2"}})
}

// P23.6
func TestMovableAndClone(t *testing.T) {
	b := table(t, row(), api.Local, x(), z())
	for i, c := range []struct {
		direction  int
		set, moved []int
		want       bool
		e          api.Errno
	}{
		{0, []int{0, 1, 2}, []int{2}, true, api.OK}, {0, []int{0, 1, 2}, []int{0}, false, api.OK}, {0, []int{0, 2}, []int{0}, true, api.OK}, {1, []int{0, 1, 2}, []int{1}, true, api.OK}, {0, []int{0, 1, 2}, []int{1, 2}, true, api.OK}, {0, []int{0, 1, 2}, []int{0, 2}, false, api.OK},
		{2, nil, nil, false, api.ErrRange}, {-1, nil, nil, false, api.ErrRange}, {0, nil, nil, false, api.ErrEmpty}, {0, []int{3}, nil, false, api.ErrRange}, {0, []int{1, 0}, nil, false, api.ErrOrder}, {0, []int{0}, nil, false, api.ErrEmpty}, {0, []int{0}, []int{2, 2}, false, api.ErrOrder}, {0, []int{0, 1}, []int{2}, false, api.ErrConflict}, {0, []int{0, 1}, []int{0, 1}, false, api.ErrConflict},
	} {
		if is, e := b.Movable(c.direction, c.set, c.moved); is != c.want || e != c.e {
			t.Errorf("%d: Movable = %t, %d", i, is, e)
		}
	}
	c := b.Clone()
	if !same(t, b, c) || c.Tests() != b.Tests() {
		t.Error("Clone")
	}
	if e := c.Remove(0); e != api.OK || len(b.assembly.Instances) != 3 || b.Tests() != 12 {
		t.Error("Clone is not independent")
	}
	if l, _ := b.Arcs(0); len(l) != 2 {
		t.Error("Clone is not independent")
	}
}

func TestNil(t *testing.T) {
	var b *Table
	_, e1 := b.Assembly()
	_, e2 := b.Directions()
	_, e3 := b.Arcs(0)
	_, e4 := b.Changes()
	_, e5 := b.Movable(0, nil, nil)
	for i, e := range []api.Errno{e1, e2, e3, e4, e5, b.Replace(0, api.Instance{}), b.Add(api.Instance{}), b.Remove(0), b.Part(api.Part{}), b.Turn(0, x())} {
		if e != api.ErrArgument {
			t.Errorf("%d: %d", i, e)
		}
	}
	if b.Tests() != 0 || b.Clone() != nil {
		t.Error("Tests, Clone")
	}
}

// What a table returns, and what it is given, is not what it keeps.
func TestMemory(t *testing.T) {
	a, l := row(), []api.Point{x(), z()}
	b := table(t, a, api.Local, l...)
	a.Parts[0].Cells[0].Vertices[0][0], a.Instances[0].Name, l[0] = 9, "z", z()
	p := cube("other", 1)
	if e := b.Part(p); e != api.OK {
		t.Fatal(e)
	}
	p.Cells[0].Vertices[0][0] = 9
	got, _ := b.Assembly()
	got.Parts[0].Cells[0].Vertices[0][0] = 9
	d, _ := b.Directions()
	d[0] = z()
	arcs, _ := b.Arcs(0)
	arcs[0].From = 9
	if !same(t, b, table(t, row(), api.Local, x(), z())) {
		t.Error("the table has changed")
	}
}

// P23.7
func TestConsequences(t *testing.T) {
	r := rand.New(rand.NewSource(1))
	for _, kind := range []int{api.Far, api.Local} {
		b := table(t, row(), kind, x(), z(), api.Point{"1", "-1", "2"})
		for range 60 {
			before := b.Clone()
			var e api.Errno
			var back func() api.Errno
			switch r.Intn(4) {
			case 0:
				i := r.Intn(3)
				old := b.assembly.Instances[i]
				e = b.Replace(i, at(old.Name, []string{"cube", "other"}[r.Intn(2)], r.Intn(4), r.Intn(3), r.Intn(2)))
				back = func() api.Errno { return b.Replace(i, old) }
			case 1:
				e = b.Add(at("n", "other", r.Intn(4), r.Intn(3), 1))
				back = func() api.Errno { return b.Remove(3) }
			case 2:
				old := b.assembly.Parts[1]
				e = b.Part(cube("other", 1+r.Intn(2)))
				back = func() api.Errno { return b.Part(old) }
			case 3:
				old := b.directions[2]
				e = b.Turn(2, api.Point{"1", rational.From(r.Intn(5) - 2).Number(), "2"})
				back = func() api.Errno { return b.Turn(2, old) }
			}
			if e != api.OK {
				continue
			}
			checkFresh(t, b)
			changes, _ := b.Changes()
			if e := back(); e != api.OK || !same(t, b, before) {
				t.Fatalf("an edit that is taken back leaves %v: %d", b, e)
			}
			undone, _ := b.Changes()
			for i := range changes {
				changes[i].Gained = !changes[i].Gained
			}
			for _, c := range changes {
				if !slices.Contains(undone, c) || len(undone) != len(changes) {
					t.Fatalf("the changes are %v, and taken back %v", changes, undone)
				}
			}
		}
	}
}

// checkFresh compares a table with a scene of its assembly.
func checkFresh(t *testing.T, b *Table) {
	t.Helper()
	s, e := blocking.Open(b.assembly)
	if e != api.OK {
		t.Fatal(e)
	}
	var all []int
	for i := range b.assembly.Instances {
		all = append(all, i)
	}
	for i, d := range b.directions {
		want, _ := s.Arcs(all, d, b.blocking)
		if got, _ := b.Arcs(i); !slices.Equal(got, want) {
			t.Fatalf("the arcs are %v, not %v", got, want)
		}
	}
}
