package rest

import (
	"fmt"
	"math/rand"
	"slices"
	"strings"
	"testing"

	"dowel/api"
	"dowel/assembly"
	"dowel/motion"
	"dowel/rational"
	"dowel/vector"
)

func box(x, y, z, a, b, c int) api.Cell {
	return api.Cell{Vertices: []api.Vector{{x, y, z}, {x, y, c}, {x, b, z}, {x, b, c}, {a, y, z}, {a, y, c}, {a, b, z}, {a, b, c}}}
}

// build returns an assembly whose instances stay where the cells of their parts are.
func build(parts ...[]api.Cell) api.Assembly {
	var a api.Assembly
	for i, cells := range parts {
		name := string(rune('a' + i))
		a.Parts = append(a.Parts, api.Part{Name: name, Density: 1, Cells: cells})
		a.Instances = append(a.Instances, api.Instance{Name: name, Part: name, Place: api.Placement{Turn: [4]int{1, 0, 0, 0}, Shift: api.Point{"0", "0", "0"}}})
	}
	return a
}

func one(x, y, z, a, b, c int) []api.Cell { return []api.Cell{box(x, y, z, a, b, c)} }

func point(text string) api.Point {
	var p api.Point
	for i, word := range strings.Fields(text) {
		p[i] = api.Number(word)
	}
	return p
}

func points(text string) []api.Point {
	var l []api.Point
	for part := range strings.SplitSeq(text, ",") {
		l = append(l, point(part))
	}
	return l
}

func brick() api.Assembly { return build(one(0, 0, 0, 1, 2, 3)) }

// hook is a low box with a long arm at its top: it tips over.
func hook() api.Assembly { return build(one(0, 0, 0, 1, 2, 2), one(1, 0, 1, 9, 2, 2)) }

// skew is a tower that leans: it tips from its foot.
func skew() api.Assembly {
	return build([]api.Cell{{Vertices: []api.Vector{{0, 0, 0}, {0, 2, 0}, {2, 0, 0}, {2, 2, 0}, {8, 0, 4}, {8, 2, 4}, {10, 0, 4}, {10, 2, 4}}}})
}

// P34.1
func TestBases(t *testing.T) {
	l, e := Bases(brick())
	if len(l) != 6 || e != api.OK {
		t.Fatalf("Bases: %d, %d", len(l), e)
	}
	b := l[0]
	if b.Normal != point("-1 0 0") || b.Offset != "0" || !slices.Equal(b.Corners, points("0 0 0,0 0 3,0 2 3,0 2 0")) || b.Height != "1/4" {
		t.Errorf("the base 0 is %v", b)
	}
	if !slices.Equal(b.Behind, []int{1, 3, 4, 2}) || fmt.Sprint(b.Margins) != "[1 9/4 1 9/4]" {
		t.Errorf("the base 0 is %v", b)
	}
	b = l[2]
	if b.Normal != point("0 0 -1") || fmt.Sprint(b.Margins) != "[1/4 1 1/4 1]" || b.Height != "9/4" || !slices.Equal(b.Corners, points("0 0 0,0 2 0,1 2 0,1 0 0")) {
		t.Errorf("the base 2 is %v", b)
	}
	if l[5].Offset != "1" || l[3].Offset != "3" {
		t.Errorf("the offsets are %s, %s", l[5].Offset, l[3].Offset)
	}
	// Points within a face are no corners, and those within the body no points of a face.
	l, e = Bases(build(one(0, 0, 0, 2, 2, 1), one(0, 0, 1, 1, 2, 2), one(1, 0, 1, 2, 2, 2)))
	if len(l) != 6 || len(l[0].Corners) != 4 || e != api.OK {
		t.Errorf("Bases = %v, %d", l, e)
	}
	l, e = Bases(skew())
	if len(l) != 6 || l[5].Normal != point("1 0 -2") || l[5].Offset != "2" || e != api.OK {
		t.Errorf("Bases = %v, %d", l, e)
	}
}

func TestFirstErrors(t *testing.T) {
	thick := build(one(0, 0, 0, 1, 1, 1), one(0, 0, 0, 1, 1, 1))
	var many [][]api.Cell
	for i := range 9 {
		many = append(many, one(3*i, i*i, 0, 3*i+1, i*i+1, 1))
	}
	for i, c := range []struct {
		a api.Assembly
		e api.Errno
	}{{thick, api.ErrPenetrate}, {api.Assembly{}, api.ErrEmpty}, {build(many...), api.ErrLimit}, {build(many[:8]...), api.OK}} {
		l, e1 := Bases(c.a)
		s, e2 := Stable(c.a)
		f, e3 := Firmest(c.a)
		w, e4 := Lowest(c.a)
		if c.e == api.OK {
			if e1 != api.OK || len(l) == 0 {
				t.Errorf("%d: Bases: %d", i, e1)
			}
			continue
		}
		n, e5 := Tips(c.a, -1)
		m, e6 := Settle(c.a, -1)
		d, touching, e7 := Down(c.a, -1)
		is, e8 := Tilt(c.a, -1, api.Point{})
		for k, e := range []api.Errno{e1, e2, e3, e4, e5, e6, e7, e8} {
			if e != c.e {
				t.Errorf("%d, %d: %d, not %d", i, k, e, c.e)
			}
		}
		if l != nil || s != nil || f != 0 || w != 0 || n != 0 || m != nil || d != (api.Point{}) || touching != nil || is {
			t.Errorf("%d: the results are not zero", i)
		}
	}
	for _, i := range []int{-1, 6} {
		n, e1 := Tips(brick(), i)
		m, e2 := Settle(brick(), i)
		d, l, e3 := Down(brick(), i)
		is, e4 := Tilt(brick(), i, api.Point{})
		if e1 != api.ErrRange || e2 != api.ErrRange || e3 != api.ErrRange || e4 != api.ErrRange || n != 0 || m != nil || d != (api.Point{}) || l != nil || is {
			t.Errorf("%d: %d, %d, %d, %d", i, e1, e2, e3, e4)
		}
	}
	for text, want := range map[string]api.Errno{"0 0 0": api.ErrZero, "x 1/0 0": api.ErrSyntax, "1 2/4 0": api.ErrForm} {
		if is, e := Tilt(brick(), 0, point(text)); is || e != want {
			t.Errorf("Tilt(%s): %d", text, e)
		}
	}
}

// P34.2, P34.3
func TestStableTipsSettle(t *testing.T) {
	l, e := Stable(brick())
	if !slices.Equal(l, []int{0, 1, 2, 3, 4, 5}) || e != api.OK {
		t.Errorf("Stable = %d, %d", l, e)
	}
	if n, e := Tips(brick(), 0); n != 0 || e != api.ErrState {
		t.Errorf("Tips = %d, %d", n, e)
	}
	if m, e := Settle(brick(), 3); !slices.Equal(m, []int{3}) || e != api.OK {
		t.Errorf("Settle = %d, %d", m, e)
	}
	// The foot of the tower is the base with the normal 0 0 -1; it falls onto its slanted side.
	bases, _ := Bases(skew())
	foot := slices.IndexFunc(bases, func(b Base) bool { return b.Normal == point("0 0 -1") })
	n, e := Tips(skew(), foot)
	if bases[n].Normal != point("1 0 -2") || e != api.OK {
		t.Errorf("Tips = %v, %d", bases[n].Normal, e)
	}
	m, e := Settle(skew(), foot)
	if len(m) < 2 || m[0] != foot || m[1] != n || e != api.OK {
		t.Errorf("Settle = %d, %d", m, e)
	}
	if l, _ := Stable(skew()); slices.Contains(l, foot) || !slices.Contains(l, m[len(m)-1]) {
		t.Errorf("Stable = %d", l)
	}
}

// P34.2: a centre above an edge does not rest, but tips over it.
func TestBalanceOnAnEdge(t *testing.T) {
	// A box with an arm whose centre of mass lies above the edge of the box.
	a := build(one(0, 0, 0, 2, 2, 2), one(2, 0, 1, 5, 2, 2))
	b := build(one(0, 0, 0, 2, 2, 2), one(2, 0, 1, 4, 2, 2))
	b.Parts[1].Density = 2
	bases, _ := Bases(b)
	foot := slices.IndexFunc(bases, func(b Base) bool { return b.Normal == point("0 0 -1") })
	if !slices.Contains(bases[foot].Margins, "0") {
		t.Fatalf("the margins are %s", bases[foot].Margins)
	}
	if l, _ := Stable(b); slices.Contains(l, foot) {
		t.Error("it rests on an edge")
	}
	if n, e := Tips(b, foot); e != api.OK || bases[n].Normal == point("-1 0 0") {
		t.Errorf("Tips = %d, %d", n, e)
	}
	if is, e := Tilt(b, foot, point("0 0 -1")); !is || e != api.OK {
		t.Errorf("Tilt = %t, %d", is, e)
	}
	if l, e := Stable(a); e != api.OK || len(l) == 0 {
		t.Errorf("Stable = %d, %d", l, e)
	}
}

// P34.4, P34.5
func TestFirmestLowestDownTilt(t *testing.T) {
	if i, e := Firmest(brick()); i != 0 || e != api.OK {
		t.Errorf("Firmest = %d, %d", i, e)
	}
	if i, e := Lowest(brick()); i != 0 || e != api.OK {
		t.Errorf("Lowest = %d, %d", i, e)
	}
	cube := build(one(0, 0, 0, 1, 1, 1))
	if i, _ := Firmest(cube); i != 0 {
		t.Errorf("Firmest = %d", i)
	}
	d, l, e := Down(hook(), 2)
	bases, _ := Bases(hook())
	if d != bases[2].Normal || e != api.OK {
		t.Errorf("Down = %v, %d, %d", d, l, e)
	}
	foot := slices.IndexFunc(bases, func(b Base) bool { return b.Normal == point("0 0 -1") })
	top := slices.IndexFunc(bases, func(b Base) bool { return b.Normal == point("0 0 1") })
	if _, l, _ := Down(hook(), foot); !slices.Equal(l, []int{0}) {
		t.Errorf("Down = %d", l)
	}
	if _, l, _ := Down(hook(), top); !slices.Equal(l, []int{0, 1}) {
		t.Errorf("Down = %d", l)
	}
	for text, want := range map[string]bool{"0 0 -1": true, "0 1/2 -1": true, "1 0 -1": false, "1/3 0 -1": true, "0 0 1": false, "1 0 0": false, "0 2/3 -1": true, "0 3/4 -1": false} {
		if is, e := Tilt(brick(), 2, point(text)); is != want || e != api.OK {
			t.Errorf("Tilt(%s) = %t, %d", text, is, e)
		}
	}
}

// random returns an assembly of a box and a tetrahedron on it, turned.
func random(r *rand.Rand) api.Assembly {
	x, y := r.Intn(3), 1+r.Intn(3)
	a := build(one(0, 0, 0, 2, y, 1+r.Intn(3)), []api.Cell{{Vertices: []api.Vector{{x - 3, 0, -4}, {x - 3, 0, -2 - r.Intn(2)}, {x - 3, y, -4}, {x + 2 + r.Intn(4), 0, -4}}}})
	a.Parts[1].Density = 1 + r.Intn(5)
	b, _ := assembly.Move(a, api.Placement{Turn: [4]int{2, 1, 0, r.Intn(2)}, Shift: point("1/2 0 0")})
	return b
}

// P34.6
func TestConsequences(t *testing.T) {
	r := rand.New(rand.NewSource(1))
	quarters := motion.Quarters()
	for range 25 {
		a := random(r)
		bases, e := Bases(a)
		if e != api.OK {
			t.Fatal(e)
		}
		stable, _ := Stable(a)
		lowest, _ := Lowest(a)
		firmest, _ := Firmest(a)
		if !slices.Contains(stable, lowest) || !slices.Contains(stable, firmest) {
			t.Fatalf("Stable = %d, but %d is the lowest one, and %d the firmest one", stable, lowest, firmest)
		}
		checkBases(t, bases)
		for i, b := range bases {
			way, e := Settle(a, i)
			if e != api.OK || way[0] != i || !slices.Contains(stable, way[len(way)-1]) {
				t.Fatalf("Settle(%d) = %d, %d", i, way, e)
			}
			for k := 1; k < len(way); k++ {
				x, _ := rational.Read(bases[way[k-1]].Height)
				y, _ := rational.Read(bases[way[k]].Height)
				if rational.Compare(x, y) <= 0 {
					t.Fatalf("the heights along %d do not decrease", way)
				}
			}
			isNegative := slices.ContainsFunc(b.Margins, func(n api.Number) bool { return n[0] == '-' })
			if is, _ := Tilt(a, i, b.Normal); is == isNegative {
				t.Fatalf("Tilt(%d) = %t with the margins %s", i, is, b.Margins)
			}
		}
		p := api.Placement{Turn: quarters[r.Intn(24)], Shift: point("7 -1/3 0")}
		moved, _ := assembly.Move(a, p)
		others, _ := Bases(moved)
		m, _ := motion.Of(p)
		for _, b := range bases {
			n, _ := vector.Read(b.Normal)
			turned := motion.Turn(m, n).Point()
			at := slices.IndexFunc(others, func(o Base) bool { return o.Normal == turned })
			if at < 0 || others[at].Height != b.Height || fmt.Sprint(slices.Sorted(slices.Values(others[at].Margins))) != fmt.Sprint(slices.Sorted(slices.Values(b.Margins))) {
				t.Fatalf("the base %v is not that of the moved assembly", b)
			}
		}
	}
}

// checkBases checks the formula of Euler, the order of the corners, and what lies behind edges.
func checkBases(t *testing.T, bases []Base) {
	t.Helper()
	corners := map[api.Point]bool{}
	edges := 0
	for i, b := range bases {
		if len(b.Behind) != len(b.Corners) || len(b.Margins) != len(b.Corners) {
			t.Fatalf("the base %v", b)
		}
		n, _ := vector.Read(b.Normal)
		for k, c := range b.Corners {
			corners[c] = true
			edges++
			other := bases[b.Behind[k]]
			next := b.Corners[(k+1)%len(b.Corners)]
			at := slices.Index(other.Corners, next)
			if b.Behind[k] == i || at < 0 || other.Corners[(at+1)%len(other.Corners)] != c {
				t.Fatalf("the edge %d of the base %d", k, i)
			}
			v, _ := vector.Read(c)
			if vector.Dot(n, v).Number() != b.Offset {
				t.Fatalf("the corner %v of the base %v", c, b.Normal)
			}
			first, _ := vector.Read(b.Corners[0])
			if vector.Compare(first, v) > 0 {
				t.Fatalf("the corners %v do not begin with the least one", b.Corners)
			}
		}
	}
	if len(corners)+len(bases) != edges/2+2 {
		t.Fatalf("%d corners, %d bases, %d edges", len(corners), len(bases), edges/2)
	}
}
