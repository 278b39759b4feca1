package axes

import (
	"math/rand"
	"slices"
	"strings"
	"testing"

	"dowel/api"
	"dowel/cell"
	"dowel/motion"
	"dowel/rational"
	"dowel/vector"
)

// shape returns a random cell in a random place; far away, if shift is a long number.
func shape(t *testing.T, r *rand.Rand, turn [4]int, shift api.Number) cell.Shape {
	t.Helper()
	for {
		var l []api.Vector
		for range 4 + r.Intn(6) {
			l = append(l, api.Vector{r.Intn(6) - 3, r.Intn(6) - 3, r.Intn(6) - 3})
		}
		c, e := cell.Hull(l)
		if e != api.OK {
			continue
		}
		s, e := cell.Of(c)
		m, f := motion.Of(api.Placement{Turn: turn, Shift: api.Point{shift, "1/2", "0"}})
		if e != api.OK || f != api.OK {
			t.Fatalf("%d, %d", e, f)
		}
		return cell.Place(s, m)
	}
}

// normals returns the normals of all axes by their definition.
func normals(a, b cell.Shape) []vector.Vec {
	var l []vector.Vec
	add := func(v vector.Vec) {
		if p, e := vector.Primitive(v); e == api.OK {
			if vector.Compare(p, vector.Vec{}) < 0 {
				p = vector.Neg(p)
			}
			l = append(l, p)
		}
	}
	for _, s := range []cell.Shape{a, b} {
		for _, f := range s.Faces {
			add(f.Normal)
		}
	}
	for _, d := range cell.Directions(a) {
		for _, e := range cell.Directions(b) {
			add(vector.Cross(d, e))
		}
	}
	slices.SortFunc(l, vector.Compare)
	return slices.CompactFunc(l, vector.Equal)
}

func TestLines(t *testing.T) {
	r := rand.New(rand.NewSource(1))
	far := api.Number("1" + strings.Repeat("0", 30))
	for i, c := range []struct {
		turn  [4]int
		shift api.Number
	}{{[4]int{1, 0, 0, 0}, "2"}, {[4]int{1, 0, 0, 1}, "5/3"}, {[4]int{12, 11, -7, 5}, "-1/7"}, {[4]int{3, 1, 4, -1}, far}, {[4]int{12, 11, -7, 5}, "1/" + far}} {
		for range 12 {
			a, b := shape(t, r, [4]int{2, -1, 1, 0}, "0"), shape(t, r, c.turn, c.shift)
			var got []Line
			for l := range Lines(Of(a), Of(b)) {
				got = append(got, l)
			}
			slices.SortFunc(got, func(x, y Line) int { return vector.Compare(x.Normal, y.Normal) })
			want := normals(a, b)
			if len(got) != len(want) {
				t.Fatalf("%d: %d lines, not %d", i, len(got), len(want))
			}
			for k, l := range got {
				lowA, highA := cell.Extent(a, want[k])
				lowB, highB := cell.Extent(b, want[k])
				if !vector.Equal(l.Normal, want[k]) || rational.Compare(l.LowA, lowA) != 0 || rational.Compare(l.HighA, highA) != 0 || rational.Compare(l.LowB, lowB) != 0 || rational.Compare(l.HighB, highB) != 0 {
					t.Fatalf("%d: the line %v is %v", i, want[k].Point(), l)
				}
			}
		}
	}
}

func TestLinesCanBeLeft(t *testing.T) {
	s := shape(t, rand.New(rand.NewSource(2)), [4]int{1, 0, 0, 0}, "0")
	for range Lines(Of(s), Of(s)) {
		break
	}
	count := 0
	for range Lines(Of(s), Of(s)) {
		count++
	}
	for stop := range count {
		left := 0
		for range Lines(Of(s), Of(s)) {
			if left++; left > stop {
				break
			}
		}
		if left != stop+1 {
			t.Errorf("%d lines, not %d", left, stop+1)
		}
	}
}

// A pair meets at the times within its interval, touches at its ends, and the closed interval has the ends, too.
func TestPairs(t *testing.T) {
	r := rand.New(rand.NewSource(3))
	kinds := map[int]int{}
	for range 300 {
		a, b := shape(t, r, [4]int{1, 0, 0, 0}, "0"), shape(t, r, [4]int{1, r.Intn(3) - 1, r.Intn(2), 0}, "3")
		d := vector.Of(api.Vector{r.Intn(5) - 2, r.Intn(5) - 2, 1})
		p := PairOf(Of(a), Of(b))
		kinds[p.Status()]++
		if p.Status() != Status(Of(a), Of(b)) || p.Status() > Boxes(a.Vertices, b.Vertices) {
			t.Fatalf("the status is %d, %d", p.Status(), Status(Of(a), Of(b)))
		}
		if x, y, is := p.Reversed().Open(vector.Neg(d)); true {
			low, high, meets := PairOf(Of(b), Of(a)).Open(vector.Neg(d))
			if is != meets || rational.Compare(x, low) != 0 || rational.Compare(y, high) != 0 {
				t.Fatalf("the reversed pair has the interval %s, %s", x.Number(), y.Number())
			}
		}
		at := func(time rational.Rat) int {
			m := motion.Identity()
			m.Shift = vector.Scale(d, time)
			status := Status(Of(cell.Place(a, m)), Of(b))
			if got := p.Shifted(m.Shift).Status(); got != status {
				t.Fatalf("the shifted pair has the status %d, not %d", got, status)
			}
			return status
		}
		low, high, meets := p.Open(d)
		from, to, touches := p.Closed(d)
		if !meets {
			if touches && at(from) != api.Touching || !touches && at(rational.Rat{}) != api.Apart {
				t.Fatalf("no interval, but the status is %d", at(from))
			}
			continue
		}
		part, _ := rational.Div(rational.Sub(high, low), rational.From(16))
		for time, want := range map[rational.Rat]int{low: api.Touching, high: api.Touching, rational.Add(low, part): api.Meeting, rational.Sub(high, part): api.Meeting, rational.Sub(low, part): api.Apart, rational.Add(high, part): api.Apart} {
			if got := at(time); got != want {
				t.Fatalf("at %s from %s to %s the status is %d", time.Number(), low.Number(), high.Number(), got)
			}
		}
		if !touches || rational.Compare(from, low) != 0 || rational.Compare(to, high) != 0 {
			t.Fatalf("the closed interval is from %s to %s", from.Number(), to.Number())
		}
	}
	if kinds[api.Apart] < 20 || kinds[api.Meeting] < 20 {
		t.Errorf("the kinds are %v", kinds)
	}
}

func TestNothing(t *testing.T) {
	s := shape(t, rand.New(rand.NewSource(4)), [4]int{1, 0, 0, 0}, "0")
	if Boxes(nil, s.Vertices) != api.Apart || Boxes(s.Vertices, nil) != api.Apart {
		t.Error("Boxes")
	}
	var p Pair
	if _, _, ok := p.Open(vector.Of(api.Vector{1, 0, 0})); ok {
		t.Error("Open")
	}
}

func BenchmarkPair(b *testing.B) {
	box := func(x int) cell.Shape {
		c, _ := cell.Hull([]api.Vector{{x, 0, 0}, {x + 1, 0, 0}, {x, 1, 0}, {x, 0, 1}, {x + 1, 1, 0}, {x + 1, 0, 1}, {x, 1, 1}, {x + 1, 1, 1}})
		s, _ := cell.Of(c)
		return s
	}
	x, y := box(0), box(1)
	for b.Loop() {
		PairOf(Of(x), Of(y))
	}
}

func BenchmarkOpen(b *testing.B) {
	var l []api.Vector
	for i := range 8 {
		l = append(l, api.Vector{i & 1, i >> 1 & 1, i >> 2})
	}
	c, _ := cell.Hull(l)
	s, _ := cell.Of(c)
	p := PairOf(Of(s), Of(s))
	d := vector.Of(api.Vector{1, 2, 0})
	for b.Loop() {
		p.Open(d)
	}
}
