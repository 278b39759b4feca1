package motion

import (
	"math"
	"math/rand"
	"slices"
	"strings"
	"testing"

	"dowel/api"
	"dowel/rational"
	"dowel/vector"
)

func placement(w, x, y, z int, shift ...api.Number) api.Placement {
	p := api.Placement{Turn: [4]int{w, x, y, z}, Shift: api.Point{"0", "0", "0"}}
	copy(p.Shift[:], shift)
	return p
}

func of(t *testing.T, p api.Placement) Motion {
	t.Helper()
	m, e := Of(p)
	if e != api.OK {
		t.Fatalf("Of(%v): %d", p, e)
	}
	return m
}

func text(v vector.Vec) string {
	p := v.Point()
	return string(p[0] + " " + p[1] + " " + p[2])
}

func rows(m Motion) string {
	return text(m.Rows[0]) + ", " + text(m.Rows[1]) + ", " + text(m.Rows[2])
}

// turns returns valid turns, small and great ones.
func turns(count int) [][4]int {
	r := rand.New(rand.NewSource(1))
	var l [][4]int
	for len(l) < count {
		size := []int{1, 3, api.MaxTurn}[r.Intn(3)]
		turn := [4]int{r.Intn(2*size+1) - size, r.Intn(2*size+1) - size, r.Intn(2*size+1) - size, r.Intn(2*size+1) - size}
		if r.Intn(3) == 0 {
			turn[0] = 0
		}
		if r.Intn(3) == 0 {
			turn[1] = 0
		}
		if checkTurn(turn) == api.OK {
			l = append(l, turn)
		}
	}
	return l
}

// P7.1
func TestCheckAndOf(t *testing.T) {
	long := api.Number(strings.Repeat("1", api.MaxNumber+1))
	for _, c := range []struct {
		p api.Placement
		e api.Errno
	}{
		{placement(1, 0, 0, 0), api.OK}, {placement(0, 0, 0, 1, "1/2", "-3"), api.OK}, {placement(12, -11, 12, -12), api.OK}, {placement(0, 2, -3, 0), api.OK}, {placement(2, 3, 6, 0), api.OK},
		{placement(0, 0, 0, 0, "x"), api.ErrZero}, {placement(13, 0, 0, 0, "x"), api.ErrRange}, {placement(1, 0, 0, -13), api.ErrRange}, {placement(-13, 0, 0, 0), api.ErrRange}, {placement(math.MinInt, 0, 0, 0), api.ErrRange}, {placement(26, 26, 0, 0), api.ErrRange},
		{placement(2, 0, 0, 0, "x"), api.ErrForm}, {placement(-1, 0, 0, 0), api.ErrForm}, {placement(0, 0, -1, 2), api.ErrForm}, {placement(4, -6, 8, 10), api.ErrForm}, {placement(0, 0, 0, -1), api.ErrForm}, {placement(0, 0, 0, 3), api.ErrForm},
		{placement(1, 0, 0, 0, "x", "2/4"), api.ErrSyntax}, {placement(1, 0, 0, 0, "1", "2/4", "x"), api.ErrForm}, {placement(1, 0, 0, 0, "1", "1", long), api.ErrLong}, {api.Placement{Turn: [4]int{1, 0, 0, 0}}, api.ErrSyntax},
	} {
		if e := Check(c.p); e != c.e {
			t.Errorf("Check(%.60v): %d, not %d", c.p, e, c.e)
		}
		m, e := Of(c.p)
		if e != c.e || e != api.OK && !Equal(m, Motion{}) || e == api.OK && m.Shift.Point() != c.p.Shift {
			t.Errorf("Of(%.60v): %d", c.p, e)
		}
	}
	for _, c := range []struct {
		turn [4]int
		rows string
	}{
		{[4]int{1, 0, 0, 0}, "1 0 0, 0 1 0, 0 0 1"}, {[4]int{1, 0, 0, 1}, "0 -1 0, 1 0 0, 0 0 1"}, {[4]int{2, 1, 0, 0}, "1 0 0, 0 3/5 -4/5, 0 4/5 3/5"}, {[4]int{1, 0, 1, 0}, "0 0 1, 0 1 0, -1 0 0"}, {[4]int{1, 2, 3, 4}, "-2/3 2/15 11/15, 2/3 -1/3 2/3, 1/3 14/15 2/15"},
	} {
		if got := rows(Motion{Rows: matrix(c.turn)}); got != c.rows {
			t.Errorf("the matrix of %d is %s, not %s", c.turn, got, c.rows)
		}
	}
}

// P7.2
func TestPlacement(t *testing.T) {
	turn := of(t, placement(1, 0, 0, 1))
	mirror, longer, skew := turn, turn, turn
	mirror.Rows[2] = vector.Neg(mirror.Rows[2])
	longer.Rows[0] = vector.Scale(longer.Rows[0], rational.From(2))
	skew.Rows[0] = skew.Rows[1]
	great := Compose(of(t, placement(12, 1, 0, 0)), of(t, placement(12, 1, 0, 0)))
	far := turn
	far.Shift, _ = vector.Read(api.Point{"0", "0", api.Number(strings.Repeat("1", api.MaxNumber+1))})
	farAndGreat, farAndSkew := far, far
	farAndGreat.Rows, farAndSkew.Rows = great.Rows, skew.Rows
	for i, c := range []struct {
		m Motion
		p api.Placement
		e api.Errno
	}{
		{turn, placement(1, 0, 0, 1), api.OK}, {Identity(), placement(1, 0, 0, 0), api.OK}, {Motion{}, api.Placement{}, api.ErrForm}, {mirror, api.Placement{}, api.ErrForm}, {longer, api.Placement{}, api.ErrForm}, {skew, api.Placement{}, api.ErrForm}, {great, api.Placement{}, api.ErrRange}, {far, api.Placement{}, api.ErrLong}, {farAndGreat, api.Placement{}, api.ErrRange}, {farAndSkew, api.Placement{}, api.ErrForm},
	} {
		if p, e := Placement(c.m); p != c.p || e != c.e {
			t.Errorf("%d: Placement = %v, %d", i, p, e)
		}
		if is := Rigid(c.m); is != (c.e != api.ErrForm) {
			t.Errorf("%d: Rigid = %t", i, is)
		}
	}
	for _, turn := range turns(300) {
		p := placement(turn[0], turn[1], turn[2], turn[3], "1/3", "-7", "0")
		m := of(t, p)
		if back, e := Placement(m); back != p || e != api.OK || !Rigid(m) {
			t.Fatalf("Placement of %v = %v, %d", p, back, e)
		}
	}
}

// P7.3
func TestApplyAndTurn(t *testing.T) {
	m := of(t, placement(1, 0, 0, 1, "10", "0", "-1/2"))
	v := vector.Of(api.Vector{1, 2, 3})
	if text(Apply(m, v)) != "8 1 5/2" || text(Turn(m, v)) != "-2 1 3" {
		t.Errorf("Apply = %s, Turn = %s", text(Apply(m, v)), text(Turn(m, v)))
	}
	any := Motion{Rows: [3]vector.Vec{v, v, {}}, Shift: v}
	if text(Apply(any, v)) != "15 16 3" || text(Turn(any, v)) != "14 14 0" {
		t.Errorf("Apply = %s, Turn = %s", text(Apply(any, v)), text(Turn(any, v)))
	}
}

// P7.4, P7.7
func TestComposeAndInvert(t *testing.T) {
	l := turns(60)
	v, w := vector.Of(api.Vector{3, -1, 2}), vector.Of(api.Vector{0, 5, -7})
	for i, turn := range l {
		next := l[(i*7+1)%len(l)]
		a := of(t, placement(turn[0], turn[1], turn[2], turn[3], "1", "2/3", "-3"))
		b := of(t, placement(next[0], next[1], next[2], next[3], "-1/2", "0", "5"))
		if !vector.Equal(Apply(Compose(a, b), v), Apply(a, Apply(b, v))) || !vector.Equal(Turn(Compose(a, b), v), Turn(a, Turn(b, v))) {
			t.Errorf("Compose of %d and %d", turn, next)
		}
		c := of(t, placement(2, 1, -1, 3, "0", "1"))
		if !Equal(Compose(Compose(a, b), c), Compose(a, Compose(b, c))) || !Equal(Compose(a, Invert(a)), Identity()) || !Equal(Compose(Invert(a), a), Identity()) {
			t.Errorf("no group: %d", turn)
		}
		if rational.Compare(vector.Dot(Turn(a, v), Turn(a, w)), vector.Dot(v, w)) != 0 || !vector.Equal(vector.Cross(Turn(a, v), Turn(a, w)), Turn(a, vector.Cross(v, w))) {
			t.Errorf("the products are not kept: %d", turn)
		}
	}
	any := Motion{Rows: [3]vector.Vec{v, w, {}}, Shift: v}
	back := Invert(any)
	if rows(back) != "3 0 0, -1 5 0, 2 -7 0" || text(back.Shift) != "-9 8 -13" {
		t.Errorf("Invert = %s, %s", rows(back), text(back.Shift))
	}
	if rows(Identity()) != "1 0 0, 0 1 0, 0 0 1" || text(Identity().Shift) != "0 0 0" {
		t.Error("Identity")
	}
	other := any
	other.Shift[2] = rational.From(9)
	third := any
	third.Rows[2][2] = rational.From(9)
	if !Equal(any, any) || Equal(any, other) || Equal(any, third) {
		t.Error("Equal")
	}
}

// P7.5
func TestJoinAndReverse(t *testing.T) {
	quarter := placement(1, 0, 0, 1, "1", "0", "0")
	if p, e := Join(quarter, quarter); p != placement(0, 0, 0, 1, "1", "1", "0") || e != api.OK {
		t.Errorf("Join = %v, %d", p, e)
	}
	if p, e := Reverse(quarter); p != placement(1, 0, 0, -1, "0", "1", "0") || e != api.OK {
		t.Errorf("Reverse = %v, %d", p, e)
	}
	if p, e := Reverse(placement(0, 2, -1, 0)); p != placement(0, 2, -1, 0) || e != api.OK {
		t.Errorf("Reverse = %v, %d", p, e)
	}
	long := api.Number("1" + strings.Repeat("0", api.MaxNumber-1))
	tiny := api.Number("1/" + strings.Repeat("7", api.MaxNumber-2))
	for i, c := range []struct {
		a, b api.Placement
		e    api.Errno
	}{
		{placement(0, 0, 0, 0), placement(13, 0, 0, 0), api.ErrZero}, {quarter, placement(13, 0, 0, 0), api.ErrRange}, {quarter, placement(1, 0, 0, 0, "x"), api.ErrSyntax},
		{placement(12, 1, 0, 0), placement(12, 1, 0, 0), api.ErrRange}, {placement(12, 1, 0, 0, long), placement(12, 1, 0, 0, tiny), api.ErrRange}, {placement(1, 0, 0, 0, long), placement(1, 0, 0, 0, tiny), api.ErrLong},
	} {
		if p, e := Join(c.a, c.b); e != c.e || p != (api.Placement{}) {
			t.Errorf("%d: Join = %v, %d", i, p, e)
		}
	}
	for i, c := range []struct {
		p api.Placement
		e api.Errno
	}{{placement(0, 0, 0, 0), api.ErrZero}, {placement(1, 0, 0, 0, "2/4"), api.ErrForm}, {placement(2, 1, 0, 0, "0", long, tiny), api.ErrLong}} {
		if p, e := Reverse(c.p); e != c.e || p != (api.Placement{}) {
			t.Errorf("%d: Reverse = %v, %d", i, p, e)
		}
	}
}

// P7.6, P7.7
func TestQuarters(t *testing.T) {
	l := Quarters()
	if len(l) != 24 || !slices.IsSortedFunc(l, func(a, b [4]int) int { return slices.Compare(a[:], b[:]) }) || !slices.Equal(l[:4], [][4]int{{0, 0, 0, 1}, {0, 0, 1, -1}, {0, 0, 1, 0}, {0, 0, 1, 1}}) {
		t.Errorf("Quarters = %d", l)
	}
	for _, a := range l {
		for _, x := range entries(matrix(a)) {
			if n, ok := x.Int(); !ok || n*n > 1 {
				t.Errorf("the matrix of %d has %s", a, x.Number())
			}
		}
		for _, b := range l {
			p, e := Join(placement(a[0], a[1], a[2], a[3]), placement(b[0], b[1], b[2], b[3]))
			if e != api.OK || !slices.Contains(l, p.Turn) {
				t.Errorf("Join(%d, %d) = %d, %d", a, b, p.Turn, e)
			}
		}
	}
	l[0][0] = 5
	if Quarters()[0] != [4]int{0, 0, 0, 1} {
		t.Error("Quarters has changed")
	}
}
