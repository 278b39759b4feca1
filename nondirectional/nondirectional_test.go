package nondirectional

import (
	"fmt"
	"math/rand"
	"slices"
	"strings"
	"testing"

	"dowel/api"
	"dowel/blocking"
	"dowel/direction"
	"dowel/graph"
	"dowel/removable"
	"dowel/vector"
)

func box(x, y, z, a, b, c int) api.Cell {
	return api.Cell{Vertices: []api.Vector{{x, y, z}, {x, y, c}, {x, b, z}, {x, b, c}, {a, y, z}, {a, y, c}, {a, b, z}, {a, b, c}}}
}

// build returns an assembly whose instances stay where the cells of their parts are.
func build(parts ...[]api.Cell) api.Assembly {
	var a api.Assembly
	for i, cells := range parts {
		name := string(rune('a' + i))
		a.Parts = append(a.Parts, api.Part{Name: name, Density: 1, Cells: cells})
		a.Instances = append(a.Instances, api.Instance{Name: name, Part: name, Place: api.Placement{Turn: [4]int{1, 0, 0, 0}, Shift: api.Point{"0", "0", "0"}}})
	}
	return a
}

func cube(x, y, z int) []api.Cell { return []api.Cell{box(x, y, z, x+1, y+1, z+1)} }

func point(text string) api.Point {
	var p api.Point
	for i, word := range strings.Fields(text) {
		p[i] = api.Number(word)
	}
	return p
}

func atlas(t *testing.T, a api.Assembly, set []int, kind int) Atlas {
	t.Helper()
	x, e := Build(a, set, kind)
	if e != api.OK || Check(x) != api.OK {
		t.Fatalf("Build: %d, %d", e, Check(x))
	}
	return x
}

// tower is two cubes, one on the other.
func tower() api.Assembly { return build(cube(0, 0, 0), cube(0, 0, 1)) }

// stairs is four cubes that touch in two directions.
func stairs() api.Assembly {
	return build(cube(0, 0, 0), cube(1, 0, 0), cube(0, 0, 1), []api.Cell{box(0, 1, 0, 2, 2, 1)})
}

func expect(t *testing.T, what string, got any, e api.Errno, want any) {
	t.Helper()
	if a, b := fmt.Sprint(got), fmt.Sprint(want); a != b || e != api.OK {
		t.Errorf("%s = %s, %d, not %s", what, a, e, b)
	}
}

// P22.1
func TestBuild(t *testing.T) {
	x := atlas(t, tower(), []int{0, 1}, api.Local)
	want := Atlas{api.Local, []int{0, 1}, []api.Point{point("0 0 1")}, []Entry{{[]int{-1}, point("0 0 -1"), [][2]int{{1, 0}}}, {[]int{0}, point("1 0 0"), nil}, {[]int{1}, point("0 0 1"), [][2]int{{0, 1}}}}}
	if !Equal(x, want) {
		t.Errorf("Build = %v", x)
	}
	bad := tower()
	bad.Instances[0].Name = "?"
	for i, c := range []struct {
		a    api.Assembly
		set  []int
		kind int
		e    api.Errno
	}{
		{bad, nil, 0, api.ErrName}, {build(cube(0, 0, 0), cube(0, 0, 0)), nil, 0, api.ErrPenetrate}, {tower(), nil, 0, api.ErrEmpty}, {tower(), []int{2, 0}, 0, api.ErrRange}, {tower(), []int{1, 0, 5}, 0, api.ErrOrder}, {tower(), []int{0}, 0, api.ErrKind}, {tower(), []int{0}, api.Far, api.OK}, {build(cube(0, 0, 0), cube(3, 1, 0), cube(-2, 5, 4), cube(7, -3, 9)), []int{0, 1, 2, 3}, api.Far, api.ErrLimit},
	} {
		if x, e := Build(c.a, c.set, c.kind); e != c.e || e != api.OK && !Equal(x, Atlas{}) {
			t.Errorf("%d: Build: %d, not %d", i, e, c.e)
		}
	}
}

// copyOf returns an independent atlas that a function has changed.
func copyOf(t *testing.T, x Atlas, f func(*Atlas)) Atlas {
	t.Helper()
	y, e := Restrict(x, x.Set)
	if e != api.OK {
		t.Fatal(e)
	}
	f(&y)
	return y
}

// P22.2
func TestCheckAndEqual(t *testing.T) {
	x := atlas(t, stairs(), []int{0, 1, 3}, api.Local)
	for i, c := range []struct {
		f func(*Atlas)
		e api.Errno
	}{
		{func(x *Atlas) { x.Blocking, x.Set = 3, nil }, api.ErrKind}, {func(x *Atlas) { x.Set = nil }, api.ErrEmpty}, {func(x *Atlas) { x.Set[0] = -1 }, api.ErrRange}, {func(x *Atlas) { x.Set[2] = 12; x.Planes = nil }, api.ErrRange}, {func(x *Atlas) { x.Set[1] = 0 }, api.ErrOrder}, {func(x *Atlas) { x.Planes[0][0] = "x" }, api.ErrSyntax}, {func(x *Atlas) { slices.Reverse(x.Planes) }, api.ErrOrder}, {func(x *Atlas) { x.Planes = x.Planes[1:] }, api.ErrSize}, {func(x *Atlas) { x.Entries = x.Entries[1:] }, api.ErrSize}, {func(x *Atlas) { x.Entries[4].Signs[0] = 1 }, api.ErrForm}, {func(x *Atlas) { x.Entries[3].Direction = point("0 0 1") }, api.ErrForm}, {func(x *Atlas) { x.Entries[0].Signs = x.Entries[0].Signs[1:] }, api.ErrForm},
		{func(x *Atlas) { x.Entries[0].Arcs = [][2]int{{0, 2}} }, api.ErrRange}, {func(x *Atlas) { x.Entries[0].Arcs = [][2]int{{9, 0}} }, api.ErrRange}, {func(x *Atlas) { x.Entries[0].Arcs = [][2]int{{1, 1}} }, api.ErrRange}, {func(x *Atlas) { x.Entries[0].Arcs = [][2]int{{1, 3}, {1, 0}} }, api.ErrOrder}, {func(x *Atlas) { x.Entries[0].Arcs = [][2]int{{1, 0}, {1, 0}} }, api.ErrOrder}, {func(x *Atlas) { x.Entries[0].Arcs = [][2]int{{1, 0}, {1, 3}, {3, 0}} }, api.OK},
	} {
		y := copyOf(t, x, c.f)
		if e := Check(y); e != c.e || Equal(x, y) || Equal(y, x) {
			t.Errorf("%d: Check: %d, not %d", i, e, c.e)
		}
		if c.e == api.OK {
			continue
		}
		a, e1 := Find(y, api.Point{})
		g, e2 := Graph(y, -1)
		b, e3 := Blocked(y, -1, -1)
		m, e4 := Movable(y, nil)
		o, e5 := Open(y, -1)
		l, e6 := Moves(y, -1)
		p, e7 := Opposite(y, -1)
		r, e8 := Restrict(y, nil)
		for k, e := range []api.Errno{e1, e2, e3, e4, e5, e6, e7, e8} {
			if e != c.e {
				t.Errorf("%d, %d: %d, not %d", i, k, e, c.e)
			}
		}
		if a != 0 || g.Nodes != 0 || b != nil || m != nil || o != nil || l != nil || p != 0 || !Equal(r, Atlas{}) {
			t.Errorf("%d: the results are not zero", i)
		}
	}
	if !Equal(x, copyOf(t, x, func(*Atlas) {})) || !Equal(Atlas{}, Atlas{Set: []int{}, Entries: []Entry{}}) || !Equal(Atlas{Entries: []Entry{{}}}, Atlas{Entries: []Entry{{Signs: []int{}, Arcs: [][2]int{}}}}) {
		t.Error("Equal")
	}
}

// P22.3
func TestFindOppositeGraph(t *testing.T) {
	x := atlas(t, tower(), []int{0, 1}, api.Local)
	for text, want := range map[string]int{"5 0 -1/2": 0, "1 1 0": 1, "0 0 3": 2} {
		i, e := Find(x, point(text))
		expect(t, "Find", i, e, want)
	}
	for text, want := range map[string]api.Errno{"0 0 0": api.ErrZero, "x 0 0": api.ErrSyntax} {
		if i, e := Find(x, point(text)); i != 0 || e != want {
			t.Errorf("Find(%s): %d", text, e)
		}
	}
	for i, want := range []int{2, 1, 0} {
		k, e := Opposite(x, i)
		expect(t, "Opposite", k, e, want)
	}
	y := atlas(t, stairs(), []int{0, 2, 3}, api.Local)
	i, _ := Find(y, point("0 1 1"))
	g, e := Graph(y, i)
	expect(t, "Graph", g, e, graph.Graph{Nodes: 3, Edges: []graph.Edge{{From: 0, To: 1}, {From: 0, To: 2}}})
	for _, i := range []int{-1, 3} {
		if k, e := Opposite(x, i); k != 0 || e != api.ErrRange {
			t.Errorf("Opposite: %d", e)
		}
		if g, e := Graph(x, i); g.Nodes != 0 || e != api.ErrRange {
			t.Errorf("Graph: %d", e)
		}
	}
}

// P22.4
func TestBlockedAndMovable(t *testing.T) {
	x := atlas(t, tower(), []int{0, 1}, api.Local)
	l, e := Blocked(x, 0, 1)
	expect(t, "Blocked", l, e, []int{2})
	l, e = Blocked(x, 1, 0)
	expect(t, "Blocked", l, e, []int{0})
	for _, c := range [][2]int{{0, 0}, {0, 2}, {-1, 1}} {
		if l, e := Blocked(x, c[0], c[1]); l != nil || e != api.ErrRange {
			t.Errorf("Blocked(%d): %d", c, e)
		}
	}
	l, e = Movable(x, []int{1})
	expect(t, "Movable", l, e, []int{1, 2})
	for _, c := range []struct {
		moved []int
		e     api.Errno
	}{{nil, api.ErrEmpty}, {[]int{2}, api.ErrRange}, {[]int{1, 0}, api.ErrOrder}, {[]int{1, 0, 7}, api.ErrOrder}, {[]int{0, 1}, api.ErrConflict}} {
		if l, e := Movable(x, c.moved); l != nil || e != c.e {
			t.Errorf("Movable(%d): %d", c.moved, e)
		}
	}
}

// P22.5
func TestOpenAndMoves(t *testing.T) {
	x := atlas(t, tower(), []int{0, 1}, api.Local)
	m, e := Moves(x, 0)
	expect(t, "Moves", m, e, [][]int{{0}, {1}})
	l, e := Open(x, 0)
	expect(t, "Open", l, e, []int{0, 1, 2})
	// A cube in a box without a lid, and a bar through both, which hold each other.
	y := build([]api.Cell{box(0, 0, 0, 3, 3, 1), box(0, 0, 1, 1, 3, 2), box(2, 0, 1, 3, 3, 2), box(1, 0, 1, 2, 1, 2), box(1, 2, 1, 2, 3, 2)}, []api.Cell{box(1, 1, 1, 2, 2, 2)})
	z := atlas(t, y, []int{0, 1}, api.Local)
	l, e = Open(z, 1)
	up, _ := Find(z, point("0 0 1"))
	down, _ := Find(z, point("0 0 -1"))
	expect(t, "Open", l, e, []int{min(up, down), max(up, down)})
	for _, f := range []func() ([]int, api.Errno){func() ([]int, api.Errno) { return Open(x, -1) }, func() ([]int, api.Errno) { l, e := Moves(x, -1); return slices.Concat(l...), e }} {
		if l, e := f(); l != nil || e != api.ErrRange {
			t.Errorf("%d", e)
		}
	}
}

// P22.5: compared with all sets of all entries.
func TestMovesByDefinition(t *testing.T) {
	for _, kind := range []int{api.Local, api.Far} {
		x, e := Build(build(cube(0, 0, 0), cube(1, 0, 0), cube(0, 0, 1), []api.Cell{box(0, 1, 0, 1, 2, 1)}), []int{0, 1, 2, 3}, kind)
		if e == api.ErrLimit {
			continue
		}
		for most := range 4 {
			var open []int
			found := map[string]bool{}
			for i, entry := range x.Entries {
				sets, _ := removable.Candidates(graphOf(x, entry), most, -1)
				if len(sets) > 0 {
					open = append(open, i)
				}
				for _, s := range sets {
					isMinimal := !slices.ContainsFunc(sets, func(o []int) bool { return len(o) < len(s) && bitsOf(o)&^bitsOf(s) == 0 })
					if isMinimal {
						found[fmt.Sprint(s)] = true
					}
				}
			}
			l, e := Open(x, most)
			expect(t, "Open", l, e, open)
			m, _ := Moves(x, most)
			for i, s := range m {
				if !found[fmt.Sprint(s)] || i > 0 && (len(m[i-1]) > len(s) || len(m[i-1]) == len(s) && slices.Compare(m[i-1], s) >= 0) {
					t.Errorf("Moves(%d) = %d", most, m)
				}
			}
			if len(m) != len(found) {
				t.Errorf("Moves(%d) = %d, not %v", most, m, found)
			}
		}
	}
}

// P22.6
func TestRestrict(t *testing.T) {
	x := atlas(t, stairs(), []int{0, 1, 2, 3}, api.Local)
	r, e := Restrict(x, []int{0, 3})
	if e != api.OK || Check(r) != api.OK || !slices.Equal(r.Set, []int{0, 3}) || !slices.Equal(r.Planes, x.Planes) || r.Blocking != x.Blocking {
		t.Fatalf("Restrict = %v, %d", r, e)
	}
	for i, entry := range r.Entries {
		want := slices.DeleteFunc(slices.Clone(x.Entries[i].Arcs), func(a [2]int) bool { return a[0] != 0 && a[0] != 3 || a[1] != 0 && a[1] != 3 })
		if !slices.Equal(entry.Arcs, want) {
			t.Errorf("the entry %d has %d, not %d", i, entry.Arcs, want)
		}
	}
	for _, c := range []struct {
		set []int
		e   api.Errno
	}{{nil, api.ErrEmpty}, {[]int{4}, api.ErrRange}, {[]int{1, 0}, api.ErrOrder}, {[]int{0, 9, 0}, api.ErrRange}} {
		if r, e := Restrict(x, c.set); !Equal(r, Atlas{}) || e != c.e {
			t.Errorf("Restrict(%d): %d", c.set, e)
		}
	}
	r.Entries[0].Signs[0], r.Planes[0], r.Set[0] = 7, api.Point{}, 7
	if Check(x) != api.OK {
		t.Error("Restrict has changed its argument")
	}
}

// P22.7
func TestConsequences(t *testing.T) {
	r := rand.New(rand.NewSource(1))
	a := stairs()
	all := []int{0, 1, 2, 3}
	x := atlas(t, a, all, api.Local)
	s, _ := blocking.Open(a)
	for range 200 {
		p, e := vector.Primitive(vector.Of(api.Vector{r.Intn(5) - 2, r.Intn(5) - 2, r.Intn(5) - 2}))
		if e != api.OK {
			continue
		}
		i, e := Find(x, p.Point())
		arcs, _ := s.Arcs(all, p.Point(), api.Local)
		var want [][2]int
		for _, arc := range arcs {
			want = append(want, [2]int{arc.From, arc.To})
		}
		if e != api.OK || !slices.Equal(x.Entries[i].Arcs, want) {
			t.Fatalf("along %v the arcs are %d, not %d", p.Point(), x.Entries[i].Arcs, want)
		}
	}
	for i, entry := range x.Entries {
		borders, _ := direction.Neighbours(x.Planes, entry.Signs)
		for _, b := range borders {
			for _, arc := range x.Entries[find(x, b)].Arcs {
				if !slices.Contains(entry.Arcs, arc) {
					t.Fatalf("the border %d has the arc %d, but not %d", b, arc, entry.Signs)
				}
			}
		}
		o, _ := Opposite(x, i)
		for bits := 1; bits < 15; bits++ {
			var moved, rest []int
			for k := range 4 {
				if bits>>k&1 == 1 {
					moved = append(moved, k)
				} else {
					rest = append(rest, k)
				}
			}
			l, _ := Movable(x, moved)
			m, _ := Movable(x, rest)
			if slices.Contains(l, i) != slices.Contains(m, o) {
				t.Fatalf("%d in %d, but %d in the opposite", moved, l, m)
			}
		}
	}
}
