package impossible

import (
	"fmt"
	"math/rand"
	"slices"
	"strings"
	"testing"

	"dowel/api"
	"dowel/assembly"
	"dowel/blocking"
	"dowel/direction"
	"dowel/planner"
)

func box(x, y, z, a, b, c int) api.Cell {
	return api.Cell{Vertices: []api.Vector{{x, y, z}, {x, y, c}, {x, b, z}, {x, b, c}, {a, y, z}, {a, y, c}, {a, b, z}, {a, b, c}}}
}

// build returns an assembly whose instances stay where the cells of their parts are.
func build(parts ...[]api.Cell) api.Assembly {
	var a api.Assembly
	for i, cells := range parts {
		name := string(rune('a' + i))
		a.Parts = append(a.Parts, api.Part{Name: name, Density: 1, Cells: cells})
		a.Instances = append(a.Instances, api.Instance{Name: name, Part: name, Place: api.Placement{Turn: [4]int{1, 0, 0, 0}, Shift: api.Point{"0", "0", "0"}}})
	}
	return a
}

func cube(x, y, z int) []api.Cell { return []api.Cell{box(x, y, z, x+1, y+1, z+1)} }

func point(text string) api.Point {
	var p api.Point
	for i, word := range strings.Fields(text) {
		p[i] = api.Number(word)
	}
	return p
}

func kind(blocking int, directions ...string) api.Kind {
	k := api.Kind{Blocking: blocking}
	for _, d := range directions {
		k.Directions = append(k.Directions, point(d))
	}
	return k
}

func axes(blocking int) api.Kind {
	return kind(blocking, "1 0 0", "-1 0 0", "0 1 0", "0 -1 0", "0 0 1", "0 0 -1")
}

// row is two cubes side by side along x.
func row() api.Assembly { return build(cube(0, 0, 0), cube(1, 0, 0)) }

// rings is two frames, each of which goes through the other one; a cube stands beside them, if there shall be three.
func rings(more ...[]api.Cell) api.Assembly {
	return build(append([][]api.Cell{{box(0, 0, 0, 1, 5, 1), box(6, 0, 0, 7, 5, 1), box(1, 0, 0, 6, 1, 1), box(1, 4, 0, 6, 5, 1)}, {box(4, 2, -2, 5, 3, 3), box(10, 2, -2, 11, 3, 3), box(5, 2, -2, 10, 3, -1), box(5, 2, 2, 10, 3, 3)}}, more...)...)
}

// lock is a cube (1) in a closed box (0).
func lock() api.Assembly {
	return build([]api.Cell{box(0, 0, 0, 3, 3, 1), box(0, 0, 1, 1, 3, 2), box(2, 0, 1, 3, 3, 2), box(1, 0, 1, 2, 1, 2), box(1, 2, 1, 2, 3, 2), box(0, 0, 2, 3, 3, 3)}, cube(1, 1, 1))
}

// hooked is two pairs of rings, one above the other.
func hooked() api.Assembly {
	a := rings()
	for i, x := range rings().Instances {
		x.Name = string(rune('c' + i))
		x.Place.Shift[2] = "20"
		a.Instances = append(a.Instances, x)
	}
	return a
}

func random(r *rand.Rand) api.Assembly {
	for {
		var parts [][]api.Cell
		for range 2 + r.Intn(3) {
			x, y, z := r.Intn(3), r.Intn(2), r.Intn(3)
			l := []api.Cell{box(x, y, z, x+1, y+1+r.Intn(2), z+1)}
			if r.Intn(3) == 0 {
				l = append(l, box(x+1, y, z, x+2, y+1, z+1), box(x+1, y, z+1, x+2, y+1, z+2))
			}
			parts = append(parts, l)
		}
		a := build(parts...)
		if _, _, e := assembly.Sound(a); e == api.OK {
			return a
		}
	}
}

func isZero(c api.Core) bool {
	return fmt.Sprint(c) == fmt.Sprint(api.Core{}) && c.Set == nil && c.Blocks == nil
}

// P28.1
func TestCheckAndDirections(t *testing.T) {
	thick := build(cube(0, 0, 0), cube(0, 0, 0))
	for i, c := range []struct {
		a          api.Assembly
		set        []int
		kind       api.Kind
		most, kept int
		e          api.Errno
	}{
		{row(), []int{0, 1}, axes(api.Far), 0, -1, api.OK}, {row(), []int{0, 1}, kind(api.Local), 12, 1, api.OK},
		{thick, nil, kind(0), -1, 9, api.ErrPenetrate}, {row(), nil, kind(0), -1, 9, api.ErrEmpty}, {row(), []int{2}, kind(0), -1, 9, api.ErrRange}, {row(), []int{1, 0}, kind(0), -1, 9, api.ErrOrder}, {row(), []int{1}, kind(0), -1, 9, api.ErrSize}, {row(), []int{0, 1}, kind(0), -1, 9, api.ErrKind}, {row(), []int{0, 1}, kind(api.Far, "2 0 0"), -1, 9, api.ErrForm}, {row(), []int{0, 1}, kind(api.Far), -1, 9, api.ErrRange}, {row(), []int{0, 1}, kind(api.Far), 13, -1, api.ErrRange}, {row(), []int{0, 1}, kind(api.Far), 0, 2, api.ErrRange}, {row(), []int{0, 1}, kind(api.Far), 0, -2, api.ErrRange}, {rings(cube(30, 0, 0)), []int{0, 1}, kind(api.Far), 0, 2, api.ErrRange},
	} {
		if e := Check(c.a, c.set, c.kind, c.most, c.kept); e != c.e {
			t.Errorf("%d: Check: %d, not %d", i, e, c.e)
		}
		if core, held, e := Prove(c.a, c.set, c.kind, c.most, c.kept); c.e != api.OK && (e != c.e || held || !isZero(core)) {
			t.Errorf("%d: Prove: %d, not %d", i, e, c.e)
		}
		if e := Verify(c.a, api.Core{Kind: c.kind, Set: c.set, Most: c.most, Kept: c.kept}); c.e != api.OK && e != c.e {
			t.Errorf("%d: Verify: %d, not %d", i, e, c.e)
		}
		if core, e := Shrink(c.a, api.Core{Kind: c.kind, Set: c.set, Most: c.most, Kept: c.kept}); c.e != api.OK && (e != c.e || !isZero(core)) {
			t.Errorf("%d: Shrink: %d, not %d", i, e, c.e)
		}
		if l, e := Directions(c.a, c.set, c.kind); c.e != api.OK && c.e != api.ErrRange && (e != c.e || l != nil) {
			t.Errorf("%d: Directions: %d, not %d", i, e, c.e)
		}
	}
	k := axes(api.Far)
	l, e := Directions(row(), []int{0, 1}, k)
	if !slices.Equal(l, k.Directions) || e != api.OK {
		t.Errorf("Directions = %v, %d", l, e)
	}
	l[0] = api.Point{}
	if k.Directions[0] != point("1 0 0") {
		t.Error("Directions has changed its argument")
	}
	l, e = Directions(row(), []int{0, 1}, kind(api.Local))
	if !slices.Equal(l, []api.Point{point("-1 0 0"), point("0 1 0"), point("1 0 0")}) || e != api.OK {
		t.Errorf("Directions = %v, %d", l, e)
	}
}

// P28.2
func TestProve(t *testing.T) {
	if c, held, e := Prove(row(), []int{0, 1}, kind(api.Far, "1 0 0"), 0, -1); held || e != api.OK || !isZero(c) {
		t.Errorf("Prove = %v, %t, %d", c, held, e)
	}
	c, held, e := Prove(row(), []int{0, 1}, kind(api.Far, "1 0 0"), 0, 1)
	want := api.Core{Kind: kind(api.Far, "1 0 0"), Set: []int{0, 1}, Kept: 1, Blocks: []api.Block{{Direction: point("1 0 0"), Arcs: []api.Arc{{From: 0, To: 1, Time: "1"}}}}}
	if fmt.Sprint(c) != fmt.Sprint(want) || !held || e != api.OK || Verify(row(), c) != api.OK {
		t.Errorf("Prove = %v, %t, %d", c, held, e)
	}
	c, held, e = Prove(lock(), []int{0, 1}, kind(api.Local), 0, -1)
	if !held || e != api.OK || len(c.Planes) != 3 || len(c.Blocks) != 26 || Verify(lock(), c) != api.OK {
		t.Errorf("Prove: %d planes, %d blocks, %t, %d", len(c.Planes), len(c.Blocks), held, e)
	}
	for _, b := range c.Blocks {
		if len(b.Arcs) != 2 {
			t.Errorf("the block %v", b)
		}
	}
	// At most one of three: the middle one is blocked by both others, these by it.
	three := build(cube(0, 0, 0), cube(1, 0, 0), cube(2, 0, 0))
	if _, held, e := Prove(three, []int{0, 1, 2}, kind(api.Far, "1 0 0"), 1, 2); !held || e != api.OK {
		t.Errorf("Prove = %t, %d", held, e)
	}
	if _, held, e := Prove(three, []int{0, 1, 2}, kind(api.Far, "1 0 0", "0 1 0"), 1, 2); held || e != api.OK {
		t.Errorf("Prove = %t, %d", held, e)
	}
	wide := build(cube(0, 0, 0), cube(3, 1, 0), cube(-2, 5, 4), cube(7, -3, 9))
	if c, held, e := Prove(wide, []int{0, 1, 2, 3}, kind(api.Far), 0, -1); held || e != api.ErrLimit || !isZero(c) {
		t.Errorf("Prove: %d", e)
	}
	if l, e := Directions(wide, []int{0, 1, 2, 3}, kind(api.Far)); l != nil || e != api.ErrLimit {
		t.Errorf("Directions: %d", e)
	}
	if l, e := Sequential(wide, kind(api.Far), 0); l != nil || e != api.ErrLimit {
		t.Errorf("Sequential: %d", e)
	}
	if c, stuck, e := TwoHanded(wide, kind(api.Far)); !isZero(c) || stuck || e != api.ErrLimit {
		t.Errorf("TwoHanded: %d", e)
	}
	if e := Verify(wide, api.Core{Kind: kind(api.Far), Set: []int{0, 1, 2, 3}, Kept: -1}); e != api.ErrCertificate {
		t.Errorf("Verify: %d", e)
	}
}

// P28.3
func TestVerify(t *testing.T) {
	a := rings()
	all, _, _ := Prove(lock(), []int{0, 1}, kind(api.Local), 0, -1)
	six, _, _ := Prove(a, []int{0, 1}, axes(api.Far), 0, -1)
	for i, c := range []struct {
		a    api.Assembly
		core api.Core
		f    func(*api.Core)
		e    api.Errno
	}{
		{a, six, func(*api.Core) {}, api.OK}, {lock(), all, func(*api.Core) {}, api.OK}, {a, six, func(c *api.Core) { c.Most = 1 }, api.OK}, {a, six, func(c *api.Core) { c.Kept = 0 }, api.OK},
		{a, six, func(c *api.Core) { c.Blocks = c.Blocks[:5] }, api.ErrCertificate}, {a, six, func(c *api.Core) { c.Blocks = append(c.Blocks, c.Blocks[0]) }, api.ErrCertificate}, {a, six, func(c *api.Core) { c.Blocks[0], c.Blocks[1] = c.Blocks[1], c.Blocks[0] }, api.ErrCertificate}, {a, six, func(c *api.Core) { c.Blocks[0].Arcs = c.Blocks[0].Arcs[1:] }, api.ErrCertificate}, {a, six, func(c *api.Core) { c.Blocks[0].Arcs[0].Time = "999" }, api.ErrCertificate}, {a, six, func(c *api.Core) { c.Blocks[0].Arcs[0].Time = "" }, api.ErrCertificate}, {a, six, func(c *api.Core) { c.Planes = []api.Point{point("1 0 0")} }, api.ErrCertificate}, {a, six, func(c *api.Core) { c.Tree = []api.Branch{{}} }, api.ErrCertificate}, {a, six, func(c *api.Core) { c.Kind.Blocking = api.Local }, api.ErrCertificate}, {a, six, func(c *api.Core) { c.Set = []int{0} }, api.ErrSize},
		{lock(), all, func(c *api.Core) { c.Planes = c.Planes[1:] }, api.ErrCertificate}, {lock(), all, func(c *api.Core) { c.Tree = c.Tree[1:] }, api.ErrCertificate}, {lock(), all, func(c *api.Core) { c.Blocks = c.Blocks[1:] }, api.ErrCertificate}, {lock(), all, func(c *api.Core) { c.Blocks[3].Arcs[0].CellTo = 1 }, api.ErrCertificate}, {lock(), all, func(c *api.Core) { c.Blocks[3].Arcs = nil }, api.ErrCertificate}, {lock(), all, func(c *api.Core) { c.Blocks[3].Direction = point("5 5 5") }, api.ErrCertificate},
		{rings(cube(2, 2, 3)), six, func(c *api.Core) { c.Blocks[0].Arcs = append(c.Blocks[0].Arcs, api.Arc{From: 0, To: 2, Time: "1"}) }, api.ErrCertificate},
	} {
		core := clone(c.core)
		c.f(&core)
		if e := Verify(c.a, core); e != c.e {
			t.Errorf("%d: Verify: %d, not %d", i, e, c.e)
		}
	}
	// A finer arrangement, with other directions in its tree, proves the same.
	finer := clone(all)
	finer.Planes, _ = direction.Collect(append(slices.Clone(all.Planes), point("1 1 0")))
	finer.Tree, _ = direction.Tree(finer.Planes)
	finer.Blocks = nil
	s, _ := blocking.Open(lock())
	for i, b := range finer.Tree {
		if b.Direction == point("1 2 0") {
			finer.Tree[i].Direction = point("1 7 0")
		}
	}
	l, _ := direction.Directions(finer.Tree, len(finer.Planes))
	for _, d := range l {
		arcs, _ := s.Arcs([]int{0, 1}, d, api.Local)
		finer.Blocks = append(finer.Blocks, api.Block{Direction: d, Arcs: arcs})
	}
	if e := Verify(lock(), finer); e != api.OK {
		t.Errorf("Verify: %d", e)
	}
}

// P28.4
func TestSequentialAndTwoHanded(t *testing.T) {
	sets := func(l []api.Core) string {
		var words []string
		for _, c := range l {
			words = append(words, fmt.Sprint(c.Set, c.Most, c.Kept))
		}
		return strings.Join(words, " ")
	}
	for i, c := range []struct {
		a         api.Assembly
		kind      api.Kind
		most      int
		want, two string
	}{
		{row(), axes(api.Far), 1, "", ""}, {rings(), axes(api.Far), 1, "[0 1] 1 -1", "[0 1] 0 -1"}, {rings(), axes(api.Far), 0, "[0 1] 0 0 [0 1] 0 1", "[0 1] 0 -1"}, {rings(cube(20, 0, 0)), axes(api.Far), 1, "[0 1] 1 -1", "[0 1] 0 -1"}, {rings(cube(20, 0, 0)), axes(api.Far), 0, "", "[0 1] 0 -1"}, {rings(cube(20, 0, 0)), axes(api.Far), 2, "", "[0 1] 0 -1"}, {hooked(), axes(api.Far), 1, "[0 1 2 3] 1 -1", "[0 1] 0 -1"}, {api.Assembly{}, axes(api.Far), 0, "", ""}, {build(cube(0, 0, 0)), kind(api.Local), 0, "", ""}, {lock(), kind(api.Local), 1, "[0 1] 1 -1", "[0 1] 0 -1"},
	} {
		l, e := Sequential(c.a, c.kind, c.most)
		if got := sets(l); got != c.want || e != api.OK {
			t.Errorf("%d: Sequential = %s, %d", i, got, e)
		}
		for _, core := range l {
			if e := Verify(c.a, core); e != api.OK {
				t.Errorf("%d: Verify: %d", i, e)
			}
		}
		core, stuck, e := TwoHanded(c.a, c.kind)
		got := ""
		if stuck {
			got = sets([]api.Core{core})
		}
		if got != c.two || e != api.OK || stuck && Verify(c.a, core) != api.OK || !stuck && !isZero(core) {
			t.Errorf("%d: TwoHanded = %s, %d", i, got, e)
		}
	}
	thick := build(cube(0, 0, 0), cube(0, 0, 0))
	for i, c := range []struct {
		a    api.Assembly
		kind api.Kind
		most int
		e    api.Errno
	}{{thick, kind(0), -1, api.ErrPenetrate}, {row(), kind(0), -1, api.ErrKind}, {row(), kind(api.Far, "0 0 0"), -1, api.ErrZero}, {row(), kind(api.Far), -1, api.ErrRange}, {api.Assembly{}, kind(api.Far), 13, api.ErrRange}} {
		if l, e := Sequential(c.a, c.kind, c.most); l != nil || e != c.e {
			t.Errorf("%d: Sequential: %d, not %d", i, e, c.e)
		}
		if core, stuck, e := TwoHanded(c.a, c.kind); c.e != api.ErrRange && (!isZero(core) || stuck || e != c.e) {
			t.Errorf("%d: TwoHanded: %d, not %d", i, e, c.e)
		}
	}
}

// P28.5
func TestShrink(t *testing.T) {
	// Along x the instance 3, which is kept, is in the way of all others: with one of these it is still a core.
	a := rings(cube(2, 2, 0), cube(20, 0, 0))
	c, held, e := Prove(a, []int{0, 1, 2, 3}, kind(api.Far, "1 0 0"), 0, 3)
	if !held || e != api.OK {
		t.Fatalf("Prove = %t, %d", held, e)
	}
	s, e := Shrink(a, c)
	if e != api.OK || Verify(a, s) != api.OK || len(s.Set) != 2 || !slices.Contains(s.Set, 3) {
		t.Errorf("Shrink = %v, %d", s.Set, e)
	}
	six, _, _ := Prove(rings(), []int{0, 1}, axes(api.Far), 0, -1)
	if s, e := Shrink(rings(), six); fmt.Sprint(s) != fmt.Sprint(six) || e != api.OK {
		t.Errorf("Shrink = %v, %d", s, e)
	}
	six.Blocks = nil
	if s, e := Shrink(rings(), six); !isZero(s) || e != api.ErrCertificate {
		t.Errorf("Shrink: %d", e)
	}
}

// P28.6
func TestSpare(t *testing.T) {
	arcs := func(pairs ...int) []api.Arc {
		var l []api.Arc
		for i := 0; i < len(pairs); i += 2 {
			l = append(l, api.Arc{From: pairs[i], To: pairs[i+1]})
		}
		return l
	}
	core := func(set []int, most, kept int, l ...[]api.Arc) api.Core {
		c := api.Core{Set: set, Most: most, Kept: kept}
		for _, b := range l {
			c.Blocks = append(c.Blocks, api.Block{Direction: point("1 0 0"), Arcs: b})
		}
		return c
	}
	three := []int{0, 1, 2}
	for i, c := range []struct {
		core api.Core
		want [][]api.Arc
		e    api.Errno
	}{
		{core(three, 0, -1, arcs(0, 1, 0, 2, 1, 2, 2, 0)), [][]api.Arc{arcs(0, 1, 1, 2, 2, 0)}, api.OK}, {core(three, 0, 2, arcs(0, 1, 0, 2, 1, 2, 2, 0)), [][]api.Arc{arcs(0, 2, 1, 2)}, api.OK}, {core(three, 1, -1, arcs(0, 1, 0, 2, 1, 2, 2, 0)), [][]api.Arc{arcs(0, 2, 1, 2, 2, 0)}, api.OK}, {core([]int{-1, 5}, 0, -1, arcs(-1, 5, 5, -1), arcs(5, -1, -1, 5, 5, -1)), [][]api.Arc{arcs(-1, 5, 5, -1), arcs(-1, 5, 5, -1)}, api.OK}, {core([]int{7}, 0, -1), nil, api.OK},
		{core(nil, -1, 9), nil, api.ErrEmpty}, {core([]int{1, 1}, -1, 9), nil, api.ErrOrder}, {core(three, -1, 9, arcs(9, 9)), nil, api.ErrRange}, {core(three, 0, 9, arcs(9, 9)), nil, api.ErrRange}, {core(three, 0, -2), nil, api.ErrRange}, {core(three, 0, -1, nil, arcs(0, 9)), nil, api.ErrNotFound}, {core(three, 0, -1, arcs(9, 0)), nil, api.ErrNotFound}, {core(three, 0, -1, nil), nil, api.ErrCertificate}, {core(three, 0, -1, arcs(0, 1, 1, 2)), nil, api.ErrCertificate}, {core(three, 2, -1, arcs(0, 1, 1, 0, 2, 0)), nil, api.ErrCertificate}, {core(three, 1, -1, arcs(0, 1, 1, 0, 2, 0)), [][]api.Arc{arcs(0, 1, 1, 0, 2, 0)}, api.OK}, {core([]int{-1, 5}, 0, -1, arcs(5, -1)), nil, api.ErrCertificate},
	} {
		before := fmt.Sprint(c.core)
		s, e := Spare(c.core)
		var got [][]api.Arc
		for _, b := range s.Blocks {
			got = append(got, b.Arcs)
		}
		if fmt.Sprint(got) != fmt.Sprint(c.want) || e != c.e || e != api.OK && !isZero(s) {
			t.Errorf("%d: Spare = %v, %d", i, got, e)
		}
		if fmt.Sprint(c.core) != before {
			t.Errorf("%d: Spare has changed its argument", i)
		}
	}
}

// P28.7
func TestConsequences(t *testing.T) {
	r := rand.New(rand.NewSource(1))
	cores := 0
	for i := range 60 {
		a := random(r)
		if i%5 == 0 {
			a = []api.Assembly{rings(cube(20, 0, 0)), hooked(), lock()}[i/5%3]
		}
		most := r.Intn(3)
		k := []api.Kind{axes(api.Far), kind(api.Local), kind(api.Far, "1 0 0", "0 1 1")}[r.Intn(3)]
		l, e := Sequential(a, k, most)
		_, f := planner.Sequential(a, k, most)
		if e == api.ErrLimit || f == api.ErrLimit {
			continue
		}
		if e != api.OK || (len(l) > 0) != (f == api.ErrStuck) {
			t.Fatalf("Sequential: %d cores, %d, but the planner %d", len(l), e, f)
		}
		c, stuck, e := TwoHanded(a, k)
		_, f = planner.TwoHanded(a, k)
		if e != api.OK || stuck != (f == api.ErrStuck) {
			t.Fatalf("TwoHanded: %t, %d, but the planner %d", stuck, e, f)
		}
		if stuck {
			l = append(l, c)
		}
		for _, c := range l {
			cores++
			checkCore(t, a, c)
		}
	}
	if cores < 20 {
		t.Errorf("only %d cores", cores)
	}
}

// checkCore checks a core, what Spare and Shrink make of it, and that nothing can be moved.
func checkCore(t *testing.T, a api.Assembly, c api.Core) {
	t.Helper()
	spared, e1 := Spare(c)
	shrunk, e2 := Shrink(a, c)
	if Verify(a, c) != api.OK || e1 != api.OK || e2 != api.OK || Verify(a, spared) != api.OK || Verify(a, shrunk) != api.OK {
		t.Fatalf("%v: %d, %d, %d", c.Set, Verify(a, c), e1, e2)
	}
	for _, i := range shrunk.Set {
		if !slices.Contains(c.Set, i) {
			t.Fatalf("Shrink adds %d", i)
		}
	}
	moves, e := planner.Moves(a, c.Set, c.Kind, c.Most)
	if e != api.OK {
		t.Fatal(e)
	}
	for _, m := range moves {
		if !slices.Contains(m.Moved, c.Kept) {
			t.Fatalf("%v can be moved out of the core %v", m, c.Set)
		}
	}
	more := a
	more.Instances = append(slices.Clone(a.Instances), api.Instance{Name: "more", Part: a.Parts[0].Name, Place: api.Placement{Turn: [4]int{1, 0, 0, 0}, Shift: point("100 100 100")}})
	if e := Verify(more, c); e != api.OK {
		t.Fatalf("with a further instance: %d", e)
	}
}
