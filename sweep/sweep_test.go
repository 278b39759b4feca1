package sweep

import (
	"math/rand"
	"slices"
	"testing"

	"dowel/api"
	"dowel/interval"
	"dowel/meeting"
	"dowel/motion"
	"dowel/rational"
	"dowel/solid"
	"dowel/vector"
)

func box(x, y, z, a, b, c int) api.Cell {
	return api.Cell{Vertices: []api.Vector{{x, y, z}, {x, y, c}, {x, b, z}, {x, b, c}, {a, y, z}, {a, y, c}, {a, b, z}, {a, b, c}}}
}

func of(t *testing.T, cells ...api.Cell) solid.Solid {
	t.Helper()
	s, e := solid.Of(api.Part{Density: 1, Cells: cells}, api.Placement{Turn: [4]int{1, 0, 0, 0}, Shift: api.Point{"0", "0", "0"}})
	if e != api.OK {
		t.Fatalf("Of: %d", e)
	}
	return s
}

func ints(x, y, z int) vector.Vec { return vector.Of(api.Vector{x, y, z}) }

func rat(t *testing.T, n api.Number) rational.Rat {
	t.Helper()
	a, e := rational.Read(n)
	if e != api.OK {
		t.Fatal(e)
	}
	return a
}

func open(ends ...api.Number) []api.Interval {
	var l []api.Interval
	for i := 0; i < len(ends); i += 2 {
		l = append(l, api.Interval{Low: ends[i], High: ends[i+1]})
	}
	return l
}

func cube(t *testing.T) solid.Solid { return of(t, box(0, 0, 0, 1, 1, 1)) }

func two(t *testing.T) solid.Solid { return of(t, box(3, 0, 0, 4, 1, 1), box(5, 0, 0, 6, 1, 1)) }

// P13.1
func TestMeetingAndStops(t *testing.T) {
	a := cube(t)
	for i, c := range []struct {
		b     solid.Solid
		d     vector.Vec
		set   []api.Interval
		stops []api.Number
	}{
		{of(t, box(3, 0, 0, 4, 1, 1)), ints(1, 0, 0), open("2", "4"), []api.Number{"2", "4"}}, {of(t, box(3, 0, 0, 4, 1, 1)), ints(-1, 0, 0), open("-4", "-2"), nil}, {of(t, box(1, 0, 0, 2, 1, 1)), ints(1, 0, 0), open("0", "2"), []api.Number{"2"}}, {of(t, box(1, 0, 0, 2, 1, 1)), ints(0, 1, 0), nil, nil},
		{two(t), ints(1, 0, 0), open("2", "4", "4", "6"), []api.Number{"2", "4", "6"}}, {two(t), ints(2, 0, 0), open("1", "2", "2", "3"), []api.Number{"1", "2", "3"}}, {of(t, box(3, 0, 0, 4, 1, 1), box(4, 0, 0, 5, 1, 1)), ints(1, 0, 0), open("2", "5"), []api.Number{"2", "5"}}, {a, ints(1, 0, 0), open("-1", "1"), []api.Number{"1"}},
	} {
		set, e := Meeting(a, c.b, c.d)
		if !interval.Equal(set, c.set) || e != api.OK {
			t.Errorf("%d: Meeting = %v, %d", i, set, e)
		}
		if stops, e := Stops(a, c.b, c.d); !slices.Equal(rational.Numbers(stops), c.stops) || e != api.OK {
			t.Errorf("%d: Stops = %s, %d", i, rational.Numbers(stops), e)
		}
	}
}

// P13.1
func TestAt(t *testing.T) {
	a, b := cube(t), two(t)
	for n, want := range map[api.Number]int{"0": api.Apart, "2": api.Touching, "5/2": api.Meeting, "4": api.Touching, "6": api.Touching, "7": api.Apart, "-1": api.Apart, "11/2": api.Meeting} {
		if got, e := At(a, b, ints(1, 0, 0), rat(t, n)); got != want || e != api.OK {
			t.Errorf("At(%s) = %d, %d", n, got, e)
		}
	}
}

// P13.2
func TestFarLocalWitness(t *testing.T) {
	a := cube(t)
	near := of(t, box(1, 0, 0, 2, 1, 1))
	behind := of(t, box(-9, 0, 0, -8, 1, 1), box(5, 0, 0, 6, 1, 1), box(3, 0, 0, 4, 1, 1))
	long := of(t, box(0, 0, 5, 1, 1, 6), box(0, 0, 0, 1, 1, 1))
	for i, c := range []struct {
		a, b           solid.Solid
		d              vector.Vec
		isFar, isLocal bool
		far, local     api.Arc
	}{
		{a, of(t, box(3, 0, 0, 4, 1, 1)), ints(1, 0, 0), true, false, api.Arc{Time: "3"}, api.Arc{}}, {a, of(t, box(3, 0, 0, 4, 1, 1)), ints(-1, 0, 0), false, false, api.Arc{}, api.Arc{}}, {a, near, ints(1, 0, 0), true, true, api.Arc{Time: "1"}, api.Arc{}}, {a, near, ints(0, 1, 0), false, false, api.Arc{}, api.Arc{}},
		{a, behind, ints(1, 0, 0), true, false, api.Arc{CellTo: 1, Time: "5"}, api.Arc{}}, {long, near, ints(1, 0, 0), true, true, api.Arc{CellFrom: 1, Time: "1"}, api.Arc{CellFrom: 1}}, {a, a, ints(1, 0, 0), true, true, api.Arc{Time: "1/2"}, api.Arc{}},
	} {
		isFar, e1 := Far(c.a, c.b, c.d)
		isLocal, e2 := Local(c.a, c.b, c.d)
		if isFar != c.isFar || isLocal != c.isLocal || e1 != api.OK || e2 != api.OK {
			t.Errorf("%d: Far %t, %d; Local %t, %d", i, isFar, e1, isLocal, e2)
		}
		if arc, ok, e := Witness(c.a, c.b, c.d, api.Far); arc != c.far || ok != c.isFar || e != api.OK {
			t.Errorf("%d: Witness = %v, %t, %d", i, arc, ok, e)
		}
		if arc, ok, e := Witness(c.a, c.b, c.d, api.Local); arc != c.local || ok != c.isLocal || e != api.OK {
			t.Errorf("%d: Witness = %v, %t, %d", i, arc, ok, e)
		}
	}
	for _, kind := range []int{0, 3, -1} {
		if arc, ok, e := Witness(a, near, ints(1, 0, 0), kind); arc != (api.Arc{}) || ok || e != api.ErrKind {
			t.Errorf("Witness = %v, %t, %d", arc, ok, e)
		}
	}
}

// P13.3
func TestFreeAndPath(t *testing.T) {
	a := cube(t)
	for i, c := range []struct {
		b        solid.Solid
		d        vector.Vec
		distance api.Number
		bounded  bool
		e        api.Errno
	}{
		{two(t), ints(1, 0, 0), "2", true, api.OK}, {two(t), ints(-1, 0, 0), "0", false, api.OK}, {of(t, box(1, 0, 0, 2, 1, 1)), ints(1, 0, 0), "0", true, api.OK}, {of(t, box(5, 0, 0, 6, 1, 1), box(3, 0, 0, 4, 1, 1)), ints(1, 0, 0), "2", true, api.OK}, {of(t, box(-5, 0, 0, -4, 1, 1), box(3, 0, 0, 4, 1, 1)), ints(1, 0, 0), "2", true, api.OK}, {a, ints(1, 0, 0), "0", false, api.ErrPenetrate}, {of(t, box(3, 0, 0, 4, 1, 1), box(0, 0, 0, 2, 1, 1)), ints(1, 0, 0), "0", false, api.ErrPenetrate},
	} {
		if distance, bounded, e := Free(a, c.b, c.d); distance.Number() != c.distance || bounded != c.bounded || e != c.e {
			t.Errorf("%d: Free = %s, %t, %d", i, distance.Number(), bounded, e)
		}
	}
	for i, c := range []struct {
		from, to api.Number
		is       bool
		e        api.Errno
	}{{"0", "2", true, api.OK}, {"0", "4", false, api.OK}, {"0", "5/2", false, api.OK}, {"3", "4", false, api.OK}, {"4", "5", false, api.OK}, {"6", "100", true, api.OK}, {"-9", "2", true, api.OK}, {"2", "3", false, api.OK}, {"0", "0", false, api.ErrOrder}, {"1", "0", false, api.ErrOrder}} {
		if is, e := Path(a, two(t), ints(1, 0, 0), rat(t, c.from), rat(t, c.to)); is != c.is || e != c.e {
			t.Errorf("%d: Path from %s to %s = %t, %d", i, c.from, c.to, is, e)
		}
	}
}

// P13.4
func TestObstacle(t *testing.T) {
	a := cube(t)
	at := func(x int) solid.Solid { return of(t, box(x, 0, 0, x+1, 1, 1)) }
	for i, c := range []struct {
		l        []solid.Solid
		index    int
		distance api.Number
		e        api.Errno
	}{{nil, -1, "0", api.OK}, {[]solid.Solid{at(-3)}, -1, "0", api.OK}, {[]solid.Solid{at(9), at(-3), at(4), at(4), at(7)}, 2, "3", api.OK}, {[]solid.Solid{at(9), at(1)}, 1, "0", api.OK}, {[]solid.Solid{at(1), a}, -1, "0", api.ErrPenetrate}} {
		if index, distance, e := Obstacle(a, c.l, ints(1, 0, 0)); index != c.index || distance.Number() != c.distance || e != c.e {
			t.Errorf("%d: Obstacle = %d, %s, %d", i, index, distance.Number(), e)
		}
	}
}

func TestDirectionZero(t *testing.T) {
	a, zero := cube(t), vector.Vec{}
	set, e1 := Meeting(a, a, zero)
	at, e2 := At(a, a, zero, rational.Rat{})
	stops, e3 := Stops(a, a, zero)
	far, e4 := Far(a, a, zero)
	local, e5 := Local(a, a, zero)
	_, witness, e6 := Witness(a, a, zero, 9)
	_, bounded, e7 := Free(a, a, zero)
	path, e8 := Path(a, a, zero, rational.From(1), rational.Rat{})
	index, _, e9 := Obstacle(a, nil, zero)
	for i, e := range []api.Errno{e1, e2, e3, e4, e5, e6, e7, e8, e9} {
		if e != api.ErrZero {
			t.Errorf("%d: %d", i, e)
		}
	}
	if set != nil || at != 0 || stops != nil || far || local || witness || bounded || path || index != -1 {
		t.Error("the results are not zero")
	}
}

// random returns a solid of two boxes, and possibly a prism.
func random(t *testing.T, r *rand.Rand, from int) solid.Solid {
	t.Helper()
	x, y, z := from+r.Intn(3), r.Intn(4)-2, r.Intn(3)-1
	cells := []api.Cell{box(x, y, z, x+1+r.Intn(2), y+2, z+2), box(x-2, y, z, x, y+1+r.Intn(2), z+1)}
	if r.Intn(2) == 0 {
		cells = append(cells, api.Cell{Vertices: []api.Vector{{x, y, z + 2}, {x, y + 1, z + 2}, {x + 1, y, z + 2}, {x + 1, y, z + 4}}})
	}
	return of(t, cells...)
}

// P13.5
func TestConsequences(t *testing.T) {
	r := rand.New(rand.NewSource(1))
	turn := api.Placement{Turn: [4]int{2, 1, -1, 0}, Shift: api.Point{"1/3", "5", "-2"}}
	m, _ := motion.Of(turn)
	penetrating := 0
	for range 60 {
		a, b := random(t, r, 0), random(t, r, r.Intn(6)-1)
		d := ints(r.Intn(5)-2, r.Intn(3)-1, 1)
		set, _ := Meeting(a, b, d)
		if back, _ := Meeting(b, a, vector.Neg(d)); !interval.Equal(back, set) {
			t.Fatalf("exchanged: %v, %v", set, back)
		}
		half := rat(t, "1/2")
		moved, _ := Meeting(solid.Shift(a, vector.Scale(d, half)), b, d)
		if want, _ := interval.Map(set, "1", "-1/2"); !interval.Equal(moved, want) {
			t.Fatalf("translated first: %v, %v", set, moved)
		}
		scaled, _ := Meeting(a, b, vector.Scale(d, rational.From(-3)))
		if want, _ := interval.Map(set, "-1/3", "0"); !interval.Equal(scaled, want) {
			t.Fatalf("-3 times the direction: %v, %v", set, scaled)
		}
		turned, _ := Meeting(solid.Move(a, m), solid.Move(b, m), motion.Turn(m, d))
		if !interval.Equal(turned, set) {
			t.Fatalf("turned: %v, %v", set, turned)
		}
		if is, _ := interval.Contains(set, "0"); is {
			penetrating++
			continue
		}
		checkFree(t, a, b, d, set)
		checkTimes(t, a, b, d, set)
	}
	if penetrating > 40 {
		t.Errorf("%d of 60 penetrate", penetrating)
	}
}

func checkFree(t *testing.T, a, b solid.Solid, d vector.Vec, set []api.Interval) {
	t.Helper()
	free, bounded, e := Free(a, b, d)
	isFar, _ := Far(a, b, d)
	isLocal, _ := Local(a, b, d)
	if e != api.OK || bounded != isFar || isLocal != (bounded && free.Sign() == 0) || isLocal && !isFar {
		t.Fatalf("Free = %s, %t, %d, Far %t, Local %t", free.Number(), bounded, e, isFar, isLocal)
	}
	arc, ok, _ := Witness(a, b, d, api.Far)
	if is, _ := interval.Contains(set, arc.Time); ok != isFar || ok && !is {
		t.Fatalf("Witness = %v, %t", arc, ok)
	}
	if ok {
		_, high, meets, _ := meeting.Interval(a.Cells[arc.CellFrom], b.Cells[arc.CellTo], d)
		if !meets || high.Sign() <= 0 {
			t.Fatalf("Witness = %v", arc)
		}
	}
	zero := rational.Rat{}
	if free.Sign() > 0 {
		if is, _ := Path(a, b, d, zero, free); !is {
			t.Fatalf("no path to the free distance %s", free.Number())
		}
	}
	beyond := rational.Add(free, rat(t, "1/1000"))
	if is, _ := Path(a, b, d, zero, beyond); is == bounded {
		t.Fatalf("the path beyond %s: %t", free.Number(), is)
	}
}

func checkTimes(t *testing.T, a, b solid.Solid, d vector.Vec, set []api.Interval) {
	t.Helper()
	stops, _ := Stops(a, b, d)
	for _, s := range stops {
		if at, _ := At(a, b, d, s); at == api.Apart {
			t.Fatalf("at the stop %s both are apart", s.Number())
		}
	}
	for i := range 24 {
		time := rational.Mul(rational.From(i-6), rat(t, "1/3"))
		at, _ := At(a, b, d, time)
		if is, _ := interval.Contains(set, time.Number()); is != (at == api.Meeting) {
			t.Fatalf("at %s the status is %d", time.Number(), at)
		}
	}
}
