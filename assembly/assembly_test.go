package assembly

import (
	"math/rand"
	"slices"
	"strings"
	"testing"

	"dowel/api"
	"dowel/cell"
	"dowel/copies"
	"dowel/meeting"
	"dowel/motion"
	"dowel/solid"
	"dowel/vector"
)

func box(x, y, z, a, b, c int) api.Cell {
	return api.Cell{Vertices: []api.Vector{{x, y, z}, {x, y, c}, {x, b, z}, {x, b, c}, {a, y, z}, {a, y, c}, {a, b, z}, {a, b, c}}}
}

func at(x, y, z api.Number) api.Placement {
	return api.Placement{Turn: [4]int{1, 0, 0, 0}, Shift: api.Point{x, y, z}}
}

func cube() api.Part {
	return api.Part{Name: "cube", Density: 1, Cells: []api.Cell{box(0, 0, 0, 1, 1, 1)}}
}

// cubes returns an assembly of cubes at some places along x.
func cubes(places ...api.Number) api.Assembly {
	a := api.Assembly{Parts: []api.Part{cube()}}
	for i, x := range places {
		a.Instances = append(a.Instances, api.Instance{Name: string(rune('a' + i)), Part: "cube", Place: at(x, "0", "0")})
	}
	return a
}

// with returns the assembly that a function has changed.
func with(a api.Assembly, f func(*api.Assembly)) api.Assembly {
	b := copies.Assembly(a)
	f(&b)
	return b
}

func isZero(a api.Assembly) bool { return a.Parts == nil && a.Instances == nil }

// random returns an assembly of turned boxes and tetrahedra.
func random(r *rand.Rand) api.Assembly {
	a := api.Assembly{Parts: []api.Part{cube(), {Name: "tip", Density: 2, Cells: []api.Cell{box(0, 0, 0, 2, 1, 1), {Vertices: []api.Vector{{0, 0, 1}, {0, 1, 1}, {0, 1, 2}, {1, 0, 1}}}}}}}
	quarters := motion.Quarters()
	for i := range 3 + r.Intn(3) {
		p := at(api.Number(string(rune('0'+r.Intn(5)))), api.Number(string(rune('0'+r.Intn(4)))), api.Number(string(rune('0'+r.Intn(3)))))
		p.Turn = quarters[r.Intn(len(quarters))]
		a.Instances = append(a.Instances, api.Instance{Name: string(rune('a' + i)), Part: a.Parts[r.Intn(2)].Name, Place: p})
	}
	return a
}

// P15.1
func TestIsName(t *testing.T) {
	for name, want := range map[string]bool{"a": true, "a-1": true, "x_y": true, "z9-_": true, strings.Repeat("a", api.MaxName): true, "": false, "1a": false, "A": false, "a.b": false, "-a": false, "_": false, "aB": false, "a b": false, "ä": false, strings.Repeat("a", api.MaxName+1): false} {
		if IsName(name) != want {
			t.Errorf("IsName(%q) = %t", name, !want)
		}
	}
}

// P15.1
func TestCheck(t *testing.T) {
	a := cubes("0", "1")
	var parts []api.Part
	for i := range api.MaxParts + 1 {
		p := cube()
		p.Name = "p" + strings.Repeat("x", i%30) + string(rune('a'+i/30))
		parts = append(parts, p)
	}
	for i, c := range []struct {
		a api.Assembly
		e api.Errno
	}{
		{a, api.OK}, {api.Assembly{}, api.OK}, {cubes("0", "0"), api.OK}, {api.Assembly{Parts: parts[:api.MaxParts]}, api.OK}, {with(a, func(a *api.Assembly) { a.Instances[1].Name = "cube" }), api.OK},
		{api.Assembly{Parts: slices.Repeat([]api.Part{{}}, api.MaxParts+1)}, api.ErrLimit},
		{with(a, func(a *api.Assembly) { a.Parts[0].Name, a.Parts[0].Density = "A", 0 }), api.ErrName}, {with(a, func(a *api.Assembly) { a.Parts = append(a.Parts, api.Part{Name: "cube"}) }), api.ErrDuplicate}, {with(a, func(a *api.Assembly) { a.Parts[0].Density = 0 }), api.ErrRange}, {with(a, func(a *api.Assembly) { a.Parts[0].Cells = nil }), api.ErrEmpty}, {with(a, func(a *api.Assembly) { a.Parts[0].Cells = append(a.Parts[0].Cells, a.Parts[0].Cells[0]) }), api.ErrPenetrate}, {with(a, func(a *api.Assembly) { a.Parts = append(a.Parts, api.Part{Name: "1"}); a.Parts[0].Cells = nil }), api.ErrEmpty},
		{cubes(slices.Repeat([]api.Number{"x"}, 13)...), api.ErrLimit}, {cubes("x", "0"), api.ErrSyntax}, {with(a, func(a *api.Assembly) { a.Instances[1].Name, a.Instances[1].Part = "", "none" }), api.ErrName}, {with(a, func(a *api.Assembly) { a.Instances[1].Name, a.Instances[1].Part = "a", "none" }), api.ErrDuplicate}, {with(a, func(a *api.Assembly) { a.Instances[1].Part, a.Instances[1].Place = "none", api.Placement{} }), api.ErrUnknown}, {with(a, func(a *api.Assembly) { a.Instances[1].Place = api.Placement{} }), api.ErrZero}, {with(a, func(a *api.Assembly) { a.Instances[0].Place.Turn[1] = 13; a.Instances[1].Name = "a" }), api.ErrRange},
	} {
		if e := Check(c.a); e != c.e {
			t.Errorf("%d: Check: %d, not %d", i, e, c.e)
		}
		if c.e == api.OK {
			continue
		}
		x, y, e1 := Sound(c.a)
		solids, e2 := Place(c.a)
		pairs, e3 := Pairs(c.a)
		mass, p, e4 := Centre(c.a)
		low, high, e5 := Box(c.a)
		s, e6 := Select(c.a, []int{-1})
		m, e7 := Move(c.a, api.Placement{})
		r, e8 := Replace(c.a, -1, api.Placement{})
		for k, e := range []api.Errno{e1, e2, e3, e4, e5, e6, e7, e8} {
			if e != c.e {
				t.Errorf("%d, %d: %d, not %d", i, k, e, c.e)
			}
		}
		if x != 0 || y != 0 || solids != nil || pairs != nil || mass != "" || p != (api.Point{}) || !vector.IsZero(low) || !vector.IsZero(high) || !isZero(s) || !isZero(m) || !isZero(r) {
			t.Errorf("%d: the results are not zero", i)
		}
	}
}

// P15.2
func TestPartAndIndex(t *testing.T) {
	second := cube()
	second.Density = 5
	a := api.Assembly{Parts: []api.Part{{Name: "?"}, cube(), second}, Instances: []api.Instance{{Name: "x"}, {Name: ""}, {Name: "y"}, {Name: "y"}}}
	if p, ok := Part(a, "cube"); !ok || p.Density != 1 || len(p.Cells) != 1 {
		t.Errorf("Part = %v, %t", p, ok)
	}
	if p, ok := Part(a, "none"); ok || p.Name != "" || p.Cells != nil {
		t.Errorf("Part = %v, %t", p, ok)
	}
	for name, want := range map[string]int{"x": 0, "": 1, "y": 2} {
		if i, ok := Index(a, name); i != want || !ok {
			t.Errorf("Index(%q) = %d, %t", name, i, ok)
		}
	}
	if i, ok := Index(a, "cube"); i != 0 || ok {
		t.Errorf("Index = %d, %t", i, ok)
	}
	p, _ := Part(a, "cube")
	p.Cells[0].Vertices[0][0] = 9
	if a.Parts[1].Cells[0].Vertices[0][0] != 0 {
		t.Error("Part has changed its argument")
	}
}

// P15.3
func TestPlace(t *testing.T) {
	a := cubes("0", "7/2")
	a.Instances[1].Place.Turn = [4]int{2, 1, 0, 0}
	solids, e := Place(a)
	if e != api.OK || len(solids) != 2 {
		t.Fatalf("Place: %d", e)
	}
	for i, s := range solids {
		if want, _ := solid.Of(cube(), a.Instances[i].Place); !solid.Equal(s, want) {
			t.Errorf("Place: %v", s)
		}
	}
	if solids, e := Place(api.Assembly{}); len(solids) != 0 || e != api.OK {
		t.Errorf("Place: %d", e)
	}
}

// P15.4
func TestStatusPairsSound(t *testing.T) {
	for i, c := range []struct {
		places []api.Number
		pairs  []Pair
		x, y   int
		e      api.Errno
	}{
		{[]api.Number{"0", "1"}, []Pair{{0, 1, api.Touching}}, 0, 0, api.OK}, {[]api.Number{"0", "1/2"}, []Pair{{0, 1, api.Meeting}}, 0, 1, api.ErrPenetrate}, {[]api.Number{"0", "3"}, nil, 0, 0, api.OK}, {nil, nil, 0, 0, api.OK},
		{[]api.Number{"0", "1", "5", "5", "2"}, []Pair{{0, 1, api.Touching}, {1, 4, api.Touching}, {2, 3, api.Meeting}}, 2, 3, api.ErrPenetrate}, {[]api.Number{"0", "1", "1/2"}, []Pair{{0, 1, api.Touching}, {0, 2, api.Meeting}, {1, 2, api.Meeting}}, 0, 2, api.ErrPenetrate},
	} {
		a := cubes(c.places...)
		if pairs, e := Pairs(a); !slices.Equal(pairs, c.pairs) || e != api.OK {
			t.Errorf("%d: Pairs = %v, %d", i, pairs, e)
		}
		if x, y, e := Sound(a); x != c.x || y != c.y || e != c.e {
			t.Errorf("%d: Sound = %d, %d, %d", i, x, y, e)
		}
	}
	two := cube()
	two.Cells = append(two.Cells, box(3, 0, 0, 4, 1, 1))
	one, _ := solid.Of(cube(), at("0", "0", "0"))
	for x, want := range map[api.Number]int{"0": api.Meeting, "1": api.Touching, "-3": api.Meeting, "-2": api.Touching, "5": api.Apart, "-3/2": api.Apart} {
		s, _ := solid.Of(two, at(x, "0", "0"))
		if Status(s, one) != want || Status(one, s) != want {
			t.Errorf("Status at %s = %d", x, Status(s, one))
		}
	}
	if Status(solid.Solid{}, one) != api.Apart {
		t.Error("Status of nothing")
	}
}

// P15.5
func TestCentreAndBox(t *testing.T) {
	a := cubes("0", "3")
	mass, p, e := Centre(a)
	if mass != "2" || p != (api.Point{"2", "1/2", "1/2"}) || e != api.OK {
		t.Errorf("Centre = %s, %v, %d", mass, p, e)
	}
	low, high, e := Box(a)
	if low.Point() != (api.Point{"0", "0", "0"}) || high.Point() != (api.Point{"4", "1", "1"}) || e != api.OK {
		t.Errorf("Box = %v, %v, %d", low.Point(), high.Point(), e)
	}
	heavy := cube()
	heavy.Name, heavy.Density = "heavy", 3
	a.Parts = append(a.Parts, heavy)
	a.Instances[1].Part = "heavy"
	if mass, p, _ := Centre(a); mass != "4" || p != (api.Point{"11/4", "1/2", "1/2"}) {
		t.Errorf("Centre = %s, %v", mass, p)
	}
	none := cubes()
	mass, p, e = Centre(none)
	if mass != "" || p != (api.Point{}) || e != api.ErrEmpty {
		t.Errorf("Centre = %s, %d", mass, e)
	}
	if low, high, e := Box(none); !vector.IsZero(low) || !vector.IsZero(high) || e != api.ErrEmpty {
		t.Errorf("Box: %d", e)
	}
}

// P15.6, P15.7
func TestSelectReplaceMove(t *testing.T) {
	a := cubes("0", "1", "2")
	s, e := Select(a, []int{2, 0})
	if want := with(a, func(a *api.Assembly) { a.Instances = []api.Instance{a.Instances[2], a.Instances[0]} }); !Equal(s, want) || e != api.OK {
		t.Errorf("Select = %v, %d", s, e)
	}
	if s, e := Select(a, nil); len(s.Instances) != 0 || len(s.Parts) != 1 || e != api.OK {
		t.Errorf("Select = %v, %d", s, e)
	}
	for i, c := range []struct {
		set []int
		e   api.Errno
	}{{[]int{0, 3}, api.ErrRange}, {[]int{-1, 0, 0}, api.ErrRange}, {[]int{1, 1, 3}, api.ErrDuplicate}, {[]int{1, 2, 1}, api.ErrDuplicate}} {
		if s, e := Select(a, c.set); e != c.e || !isZero(s) {
			t.Errorf("%d: Select: %d", i, e)
		}
	}
	r, e := Replace(a, 1, at("9", "1/2", "0"))
	if want := with(a, func(a *api.Assembly) { a.Instances[1].Place = at("9", "1/2", "0") }); !Equal(r, want) || e != api.OK {
		t.Errorf("Replace = %v, %d", r, e)
	}
	for _, i := range []int{-1, 3} {
		if r, e := Replace(a, i, api.Placement{}); e != api.ErrRange || !isZero(r) {
			t.Errorf("Replace: %d", e)
		}
	}
	if r, e := Replace(a, 0, at("0", "0", "x")); e != api.ErrSyntax || !isZero(r) {
		t.Errorf("Replace: %d", e)
	}
	quarter := api.Placement{Turn: [4]int{1, 0, 0, 1}, Shift: api.Point{"0", "0", "5"}}
	m, e := Move(a, quarter)
	if e != api.OK || m.Instances[2].Place != (api.Placement{Turn: [4]int{1, 0, 0, 1}, Shift: api.Point{"0", "2", "5"}}) || m.Instances[2].Name != "c" {
		t.Errorf("Move = %v, %d", m, e)
	}
	if m, e := Move(a, api.Placement{}); e != api.ErrZero || !isZero(m) {
		t.Errorf("Move: %d", e)
	}
	great := api.Placement{Turn: [4]int{12, 1, 0, 0}, Shift: api.Point{"0", "0", "0"}}
	if m, e := Move(with(a, func(a *api.Assembly) { a.Instances[1].Place = great }), great); e != api.ErrRange || !isZero(m) {
		t.Errorf("Move: %d", e)
	}
	for i, x := range []api.Assembly{s, r, m} {
		x.Parts[0].Cells[0].Vertices[0][0] = 9
		if a.Parts[0].Cells[0].Vertices[0][0] != 0 {
			t.Errorf("%d: the argument has changed", i)
		}
	}
}

// P15.7
func TestEqual(t *testing.T) {
	a := cubes("0", "1")
	for i, f := range []func(*api.Assembly){
		func(a *api.Assembly) { a.Parts[0].Name = "x" }, func(a *api.Assembly) { a.Parts[0].Density = 2 }, func(a *api.Assembly) { a.Parts[0].Cells[0].Vertices[0][0] = -1 }, func(a *api.Assembly) { a.Parts[0].Cells = nil }, func(a *api.Assembly) { a.Parts = nil }, func(a *api.Assembly) { a.Instances = a.Instances[:1] }, func(a *api.Assembly) { a.Instances[0].Name = "x" }, func(a *api.Assembly) { a.Instances[0].Part = "x" }, func(a *api.Assembly) { a.Instances[0].Place.Shift[0] = "7" }, func(a *api.Assembly) { slices.Reverse(a.Instances) },
	} {
		if b := with(a, f); Equal(a, b) || Equal(b, a) {
			t.Errorf("%d: Equal", i)
		}
	}
	if !Equal(a, copies.Assembly(a)) || !Equal(api.Assembly{}, api.Assembly{Parts: []api.Part{}, Instances: []api.Instance{}}) || !Equal(api.Assembly{Parts: []api.Part{{}}}, api.Assembly{Parts: []api.Part{{Cells: []api.Cell{}}}}) {
		t.Error("Equal")
	}
}

// P15.8
func TestConsequences(t *testing.T) {
	r := rand.New(rand.NewSource(1))
	p := api.Placement{Turn: [4]int{1, 2, 0, -1}, Shift: api.Point{"1/3", "-2", "0"}}
	m, _ := motion.Of(p)
	kinds := map[int]int{}
	for range 40 {
		a := random(r)
		solids, _ := Place(a)
		pairs, e := Pairs(a)
		moved, f := Move(a, p)
		if e != api.OK || f != api.OK {
			t.Fatalf("%d, %d", e, f)
		}
		if l, _ := Pairs(moved); !slices.Equal(l, pairs) {
			t.Fatalf("the pairs of %v are %v, and moved %v", a, pairs, l)
		}
		_, c, _ := Centre(a)
		v, _ := vector.Read(c)
		if _, c, _ := Centre(moved); c != motion.Apply(m, v).Point() {
			t.Fatalf("the centre is %v, and moved %v", v.Point(), c)
		}
		for i := range solids {
			for k := range i {
				status := statusOfCells(solids[k], solids[i])
				kinds[status]++
				isFound := slices.Contains(pairs, Pair{k, i, status})
				if Status(solids[i], solids[k]) != status || isFound != (status != api.Apart) {
					t.Fatalf("%d and %d lie as %d, %v", k, i, status, pairs)
				}
			}
		}
		s, _ := Select(a, []int{0, 2})
		l, _ := Pairs(s)
		for _, x := range l {
			if !slices.Contains(pairs, Pair{0, 2, x.Status}) {
				t.Fatalf("a part has the pair %v", x)
			}
		}
	}
	if len(kinds) != 3 {
		t.Errorf("the kinds are %v", kinds)
	}
}

// statusOfCells returns the greatest status of two cells.
func statusOfCells(a, b solid.Solid) int {
	status := api.Apart
	for _, c := range a.Cells {
		for _, d := range b.Cells {
			s := meeting.Status(c, d)
			status = max(status, s)
			if (s != api.Apart) != slices.ContainsFunc(meeting.Common(c, d), func(v vector.Vec) bool { return cell.Locate(c, v) != cell.Outside }) {
				return -1
			}
		}
	}
	return status
}
