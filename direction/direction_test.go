package direction

import (
	"fmt"
	"math/rand"
	"slices"
	"strings"
	"testing"

	"dowel/api"
	"dowel/cone"
	"dowel/rational"
	"dowel/vector"
)

func points(text string) []api.Point {
	var l []api.Point
	for part := range strings.SplitSeq(text, ",") {
		f := strings.Fields(part)
		if len(f) == 3 {
			l = append(l, api.Point{api.Number(f[0]), api.Number(f[1]), api.Number(f[2])})
		}
	}
	return l
}

func point(text string) api.Point { return points(text)[0] }

func normals(t *testing.T, planes []api.Point) []vector.Vec {
	t.Helper()
	l, e := read(planes)
	if e != api.OK {
		t.Fatal(e)
	}
	return l
}

// random returns arrangements of few and of many planes, some of which have common lines.
func random(r *rand.Rand, count int) []api.Point {
	var l []api.Point
	size, flat := 1+r.Intn(2), r.Intn(4) == 0
	for range count {
		v := vector.Of(api.Vector{r.Intn(2*size+1) - size, r.Intn(2*size+1) - size, r.Intn(2*size+1) - size})
		if flat {
			v[2] = rational.Add(v[0], v[1])
		}
		if !vector.IsZero(v) {
			l = append(l, v.Point())
		}
	}
	planes, e := Collect(l)
	if e != api.OK {
		return nil
	}
	return planes
}

// byCone returns the representative of a list of signs as it is defined, with package cone.
func byCone(t *testing.T, planes []api.Point, signs []int) (api.Point, bool) {
	t.Helper()
	var rows [][]api.Number
	for i, n := range normals(t, planes) {
		p, q := n.Point(), vector.Neg(n).Point()
		if signs[i] <= 0 {
			rows = append(rows, p[:])
		}
		if signs[i] >= 0 {
			rows = append(rows, q[:])
		}
	}
	c, e := cone.FromRows(3, rows)
	if e != api.OK {
		t.Fatal(e)
	}
	var sum vector.Vec
	for _, l := range c.Rays {
		v, _ := vector.Read(api.Point(l))
		sum = vector.Add(sum, v)
	}
	if len(c.Rays) == 0 && len(c.Lines) > 0 {
		sum, _ = vector.Read(api.Point(c.Lines[0]))
	}
	d, e := vector.Primitive(sum)
	if e != api.OK || !slices.Equal(signsOf(normals(t, planes), d), signs) {
		return api.Point{}, false
	}
	return d.Point(), true
}

// all returns all lists of so many signs.
func all(count int) [][]int {
	l := [][]int{nil}
	for range count {
		var longer [][]int
		for _, s := range l {
			for sign := -1; sign <= 1; sign++ {
				longer = append(longer, append(slices.Clone(s), sign))
			}
		}
		l = longer
	}
	return l
}

// P20.1
func TestCheckAndCollect(t *testing.T) {
	thirteen := strings.Repeat("1 0 0,", 13)
	var many []string
	for i := range 13 {
		many = append(many, fmt.Sprintf("1 %d 0", i))
	}
	for _, c := range []struct {
		text string
		e    api.Errno
	}{
		{"", api.OK}, {"0 1 0,1 0 0", api.OK}, {"0 0 1,0 1 -5,0 2 3,1 -1 0,1 0 0", api.OK}, {strings.Join(many[:12], ","), api.OK}, {strings.Join(many, ","), api.ErrLimit}, {thirteen, api.ErrLimit}, {"1 x 2/4,0 0 0", api.ErrSyntax}, {"0 0 0,x 0 0", api.ErrZero}, {"2 0 0,0 0 0", api.ErrForm}, {"-1 0 0", api.ErrForm}, {"0 -1 2", api.ErrForm}, {"1/2 0 0", api.ErrForm}, {"1 0 0,0 1 0", api.ErrOrder}, {"0 1 0,0 1 0", api.ErrOrder}, {"0 1 0,0 1 0,x 0 0", api.ErrOrder}, {"0 1 0,0 2/4 0", api.ErrForm},
	} {
		planes := points(c.text)
		if e := Check(planes); e != c.e {
			t.Errorf("Check(%.40s): %d, not %d", c.text, e, c.e)
		}
		if c.e == api.OK {
			continue
		}
		s, e1 := Signs(planes, api.Point{})
		d, occurs, e2 := Representative(planes, nil)
		l, e3 := Cells(planes)
		f, e4 := Find(planes, api.Point{})
		tree, e5 := Tree(planes)
		e6 := Verify(planes, nil)
		n, e7 := Neighbours(planes, nil)
		for k, e := range []api.Errno{e1, e2, e3, e4, e5, e6, e7} {
			if e != c.e {
				t.Errorf("%d: %d, not %d", k, e, c.e)
			}
		}
		if s != nil || d != (api.Point{}) || occurs || l != nil || f.Signs != nil || f.Direction != (api.Point{}) || tree != nil || n != nil {
			t.Error("the results are not zero")
		}
	}
	l, e := Collect(points("2 0 0,0 -1/2 1/4,1 0 0,0 0 -7,-3 0 0,0 2 -1"))
	if !slices.Equal(l, points("0 0 1,0 2 -1,1 0 0")) || e != api.OK {
		t.Errorf("Collect = %v, %d", l, e)
	}
	for _, c := range []struct {
		text string
		e    api.Errno
	}{{"1 0 0,x 0 0,0 0 0", api.ErrSyntax}, {"0 0 0,x 0 0", api.ErrZero}, {strings.Join(many, ","), api.ErrLimit}, {strings.Join(many, ",") + ",x 0 0", api.ErrSyntax}, {thirteen + strings.Join(many[:11], ","), api.OK}} {
		if l, e := Collect(points(c.text)); e != c.e || e != api.OK && l != nil {
			t.Errorf("Collect(%.30s) = %v, %d", c.text, l, e)
		}
	}
}

// P20.2
func TestSignsAndRepresentative(t *testing.T) {
	planes := points("0 1 0,1 0 0,1 1 0")
	if s, e := Signs(planes, point("1/2 -1 9")); !slices.Equal(s, []int{-1, 1, -1}) || e != api.OK {
		t.Errorf("Signs = %d, %d", s, e)
	}
	for text, want := range map[string]api.Errno{"0 0 0": api.ErrZero, "x 1/0 0": api.ErrSyntax, "1 2/4 0": api.ErrForm} {
		if s, e := Signs(planes, point(text)); s != nil || e != want {
			t.Errorf("Signs(%s): %d", text, e)
		}
		if c, e := Find(planes, point(text)); c.Signs != nil || c.Direction != (api.Point{}) || e != want {
			t.Errorf("Find(%s): %d", text, e)
		}
	}
	for _, c := range []struct {
		planes string
		signs  []int
		d      string
	}{
		{"", nil, "1 0 0"}, {"1 0 0", []int{-1}, "-1 0 0"}, {"1 0 0", []int{0}, "0 1 0"}, {"1 0 0", []int{1}, "1 0 0"}, {"1 1 1", []int{1}, "0 0 1"}, {"0 1 0,1 0 0", []int{0, 0}, "0 0 1"}, {"0 1 0,1 0 0", []int{1, 1}, "1 1 0"}, {"0 0 1,0 1 0,1 0 0", []int{0, 0, 0}, ""}, {"0 0 1,0 1 0,1 0 0", []int{1, -1, 0}, "0 -1 1"}, {"0 1 0,1 0 0,1 1 0", []int{1, 1, -1}, ""}, {"0 1 0,1 0 0,1 1 0", []int{1, -1, 0}, "-1 1 0"}, {"0 1 0,1 0 0,1 1 0", []int{1, -1, 1}, "-1 2 0"},
	} {
		d, occurs, e := Representative(points(c.planes), c.signs)
		if occurs != (c.d != "") || occurs && d != point(c.d) || !occurs && d != (api.Point{}) || e != api.OK {
			t.Errorf("Representative(%s; %d) = %v, %t, %d", c.planes, c.signs, d, occurs, e)
		}
	}
	for _, c := range []struct {
		signs []int
		e     api.Errno
	}{{nil, api.ErrSize}, {[]int{5, 0}, api.ErrSize}, {[]int{0, 0, 0, 0}, api.ErrSize}, {[]int{0, 2, 0}, api.ErrRange}, {[]int{-2, 0, 0}, api.ErrRange}} {
		if d, occurs, e := Representative(planes, c.signs); d != (api.Point{}) || occurs || e != c.e {
			t.Errorf("Representative(%d): %d", c.signs, e)
		}
		if l, e := Neighbours(planes, c.signs); l != nil || e != c.e {
			t.Errorf("Neighbours(%d): %d", c.signs, e)
		}
	}
}

// P20.2, P20.3: all lists of signs, compared with the definition.
func TestCellsByDefinition(t *testing.T) {
	r := rand.New(rand.NewSource(1))
	for range 60 {
		planes := random(r, r.Intn(6))
		cells, e := Cells(planes)
		if e != api.OK {
			t.Fatal(e)
		}
		for _, s := range all(len(planes)) {
			want, is := byCone(t, planes, s)
			d, occurs, e := Representative(planes, s)
			if d != want || occurs != is || e != api.OK {
				t.Fatalf("Representative(%v; %d) = %v, %t, not %v", planes, s, d, occurs, want)
			}
			at := slices.IndexFunc(cells, func(c Cell) bool { return slices.Equal(c.Signs, s) })
			if (at >= 0) != is || is && cells[at].Direction != want {
				t.Fatalf("Cells(%v) lacks %d, or has it", planes, s)
			}
		}
		if !slices.IsSortedFunc(cells, func(a, b Cell) int { return slices.Compare(a.Signs, b.Signs) }) {
			t.Fatalf("Cells(%v) are not in order", planes)
		}
	}
}

// P20.3
func TestCellsAndFind(t *testing.T) {
	for _, c := range []struct {
		planes string
		counts [3]int // of cells with no sign 0, one, and more
	}{{"", [3]int{1, 0, 0}}, {"1 0 0", [3]int{2, 1, 0}}, {"0 1 0,1 0 0", [3]int{4, 4, 1}}, {"0 0 1,0 1 0,1 0 0", [3]int{8, 12, 6}}, {"0 1 0,1 0 0,1 1 0", [3]int{6, 6, 1}}} {
		l, e := Cells(points(c.planes))
		var counts [3]int
		for _, x := range l {
			zeros := 0
			for _, s := range x.Signs {
				if s == 0 {
					zeros++
				}
			}
			counts[min(zeros, 2)]++
		}
		if counts != c.counts || e != api.OK {
			t.Errorf("Cells(%s): %d, %d", c.planes, counts, e)
		}
	}
	c, e := Find(points("0 1 0,1 0 0"), point("1/2 -7 3"))
	if !slices.Equal(c.Signs, []int{-1, 1}) || c.Direction != point("1 -1 0") || e != api.OK {
		t.Errorf("Find = %v, %d", c, e)
	}
}

// P20.4
func TestTree(t *testing.T) {
	tree, e := Tree(points("0 1 0,1 0 0,1 1 0"))
	if e != api.OK || tree[0].Signs != nil || tree[0].Direction != point("1 0 0") || !slices.Equal(tree[1].Signs, []int{-1}) || !slices.Equal(tree[2].Signs, []int{-1, -1}) || !slices.Equal(tree[3].Signs, []int{-1, -1, -1}) || !slices.Equal(tree[4].Signs, []int{-1, -1, 0}) {
		t.Errorf("Tree = %v, %d", tree, e)
	}
	if tree[4].Direction != (api.Point{}) || len(tree[4].Duals) != 3 || len(tree[3].Duals) != 0 {
		t.Errorf("Tree = %v", tree[3:5])
	}
	if tree, e := Tree(nil); len(tree) != 1 || tree[0].Direction != point("1 0 0") || e != api.OK || Verify(nil, tree) != api.OK {
		t.Errorf("Tree = %v, %d", tree, e)
	}
	r := rand.New(rand.NewSource(2))
	for range 60 {
		planes := random(r, r.Intn(8))
		tree, e := Tree(planes)
		if e != api.OK || Verify(planes, tree) != api.OK {
			t.Fatalf("Tree(%v): %d, %d", planes, e, Verify(planes, tree))
		}
		d, e := Directions(tree, len(planes))
		cells, _ := Cells(planes)
		if e != api.OK || len(d) != len(cells) {
			t.Fatalf("Tree(%v) has %d directions, not %d", planes, len(d), len(cells))
		}
		for i, c := range cells {
			if d[i] != c.Direction {
				t.Fatalf("Tree(%v) has %v, not %v", planes, d[i], c.Direction)
			}
		}
		for _, b := range tree {
			want, is := byCone(t, planes[:len(b.Signs)], b.Signs)
			if b.Direction != want || is && b.Duals != nil {
				t.Fatalf("Tree(%v) has %v", planes, b)
			}
		}
	}
}

// P20.4
func TestVerify(t *testing.T) {
	planes := points("0 0 1,0 1 0,0 1 1,1 0 0")
	tree, _ := Tree(planes)
	change := func(f func(l []api.Branch) []api.Branch) []api.Branch {
		var l []api.Branch
		for _, b := range tree {
			l = append(l, api.Branch{Signs: slices.Clone(b.Signs), Direction: b.Direction, Duals: slices.Clone(b.Duals)})
		}
		return f(l)
	}
	// Where the lists occur, do not occur, and do not occur with all signs 0.
	occurs := slices.IndexFunc(tree, func(b api.Branch) bool { return slices.Equal(b.Signs, []int{1, 1, 1, 0}) })
	refuted := slices.IndexFunc(tree, func(b api.Branch) bool { return slices.Equal(b.Signs, []int{1, 0, -1}) })
	zero := slices.IndexFunc(tree, func(b api.Branch) bool { return slices.Equal(b.Signs, []int{0, 0, 0, 0}) })
	for i, c := range []struct {
		f func(l []api.Branch) []api.Branch
		e api.Errno
	}{
		{func(l []api.Branch) []api.Branch { return l }, api.OK},
		{func(l []api.Branch) []api.Branch { l[occurs].Direction = point("0 3 7"); return l }, api.OK},
		{func(l []api.Branch) []api.Branch { l[0].Direction = point("-5 3 7"); return l }, api.OK},
		{func(l []api.Branch) []api.Branch {
			l[refuted].Duals = []api.Number{"1/2", "1/2", "1/2"}
			return l
		}, api.OK},
		{func(l []api.Branch) []api.Branch { return nil }, api.ErrCertificate},
		{func(l []api.Branch) []api.Branch { return l[:len(l)-1] }, api.ErrCertificate},
		{func(l []api.Branch) []api.Branch { return append(l, l[len(l)-1]) }, api.ErrCertificate},
		{func(l []api.Branch) []api.Branch { l[5], l[6] = l[6], l[5]; return l }, api.ErrCertificate},
		{func(l []api.Branch) []api.Branch { l[occurs].Direction = point("0 6 14"); return l }, api.ErrCertificate},
		{func(l []api.Branch) []api.Branch { l[occurs].Direction = point("0 3 0"); return l }, api.ErrCertificate},
		{func(l []api.Branch) []api.Branch { l[occurs].Direction = point("0 3 07"); return l }, api.ErrCertificate},
		{func(l []api.Branch) []api.Branch { l[occurs].Direction = point("0 1/3 1"); return l }, api.ErrCertificate},
		{func(l []api.Branch) []api.Branch { l[0].Direction = point("0 0 0"); return l }, api.ErrCertificate},
		{func(l []api.Branch) []api.Branch { l[occurs].Direction = api.Point{}; return l }, api.ErrCertificate},
		{func(l []api.Branch) []api.Branch { l[occurs].Duals = []api.Number{"0", "0", "0", "0"}; return l }, api.ErrCertificate},
		{func(l []api.Branch) []api.Branch { l[refuted].Direction = point("0 0 1"); return l }, api.ErrCertificate},
		{func(l []api.Branch) []api.Branch { l[refuted].Duals = nil; return l }, api.ErrCertificate},
		{func(l []api.Branch) []api.Branch { l[refuted].Duals = []api.Number{"0", "0", "0"}; return l }, api.ErrCertificate},
		{func(l []api.Branch) []api.Branch { l[refuted].Duals = []api.Number{"-1", "-1", "-1"}; return l }, api.ErrCertificate},
		{func(l []api.Branch) []api.Branch { l[refuted].Duals = []api.Number{"1", "-1", "1"}; return l }, api.ErrCertificate},
		{func(l []api.Branch) []api.Branch { l[refuted].Duals = []api.Number{"1", "1"}; return l }, api.ErrCertificate},
		{func(l []api.Branch) []api.Branch { l[refuted].Duals = []api.Number{"1", "1", "2/2"}; return l }, api.ErrCertificate},
		{func(l []api.Branch) []api.Branch { l[zero].Direction = point("1 0 0"); return l }, api.ErrCertificate},
		{func(l []api.Branch) []api.Branch { l[zero].Duals = []api.Number{"1", "1", "-1", "0"}; return l }, api.ErrCertificate},
		{func(l []api.Branch) []api.Branch { return []api.Branch{{}} }, api.ErrCertificate},
	} {
		if e := Verify(planes, change(c.f)); e != c.e {
			t.Errorf("%d: Verify: %d, not %d", i, e, c.e)
		}
	}
	// Three normals in one plane are not independent: there is a direction with all signs 0.
	flat := points("0 1 0,1 0 0,1 1 0")
	tree, _ = Tree(flat)
	at := slices.IndexFunc(tree, func(b api.Branch) bool { return slices.Equal(b.Signs, []int{0, 0, 0}) })
	tree[at].Direction = api.Point{}
	if e := Verify(flat, tree); e != api.ErrCertificate {
		t.Errorf("Verify: %d", e)
	}
}

// P20.4
func TestDirections(t *testing.T) {
	tree := []api.Branch{{Direction: point("1 0 0")}, {Signs: []int{5}, Direction: point("0 1 x")}, {Signs: []int{0}}, {Signs: []int{0, 0}, Direction: point("0 0 1")}, {Signs: []int{1}, Direction: point("0 0 2")}}
	if l, e := Directions(tree, 1); !slices.Equal(l, points("0 1 x,0 0 2")) || e != api.OK {
		t.Errorf("Directions = %v, %d", l, e)
	}
	if l, e := Directions(tree, 12); len(l) != 0 || e != api.OK {
		t.Errorf("Directions = %v, %d", l, e)
	}
	for _, n := range []int{-1, 13} {
		if l, e := Directions(tree, n); l != nil || e != api.ErrRange {
			t.Errorf("Directions: %d", e)
		}
	}
}

// P20.5
func TestNeighbours(t *testing.T) {
	for _, c := range []struct {
		planes string
		signs  []int
		want   [][]int
		e      api.Errno
	}{
		{"1 0 0", []int{1}, [][]int{{0}}, api.OK}, {"1 0 0", []int{0}, nil, api.OK}, {"", nil, nil, api.OK}, {"0 0 1,0 1 0,1 0 0", []int{1, -1, 1}, [][]int{{0, -1, 0}, {0, -1, 1}, {0, 0, 1}, {1, -1, 0}, {1, 0, 0}, {1, 0, 1}}, api.OK}, {"0 1 0,1 0 0,1 1 0", []int{1, 1, 1}, [][]int{{0, 0, 0}, {0, 1, 1}, {1, 0, 1}}, api.OK}, {"0 1 0,1 0 0,1 1 0", []int{1, 1, -1}, nil, api.ErrNotFound}, {"0 0 1,0 1 0,1 0 0", []int{0, 0, 0}, nil, api.ErrNotFound},
	} {
		l, e := Neighbours(points(c.planes), c.signs)
		if !slices.EqualFunc(l, c.want, func(a, b []int) bool { return slices.Equal(a, b) }) || e != c.e {
			t.Errorf("Neighbours(%s; %d) = %d, %d", c.planes, c.signs, l, e)
		}
	}
}

// P20.6
func TestConsequences(t *testing.T) {
	r := rand.New(rand.NewSource(3))
	for range 40 {
		planes := random(r, 3+r.Intn(8))
		cells, e := Cells(planes)
		if e != api.OK || len(planes) == 0 {
			continue
		}
		has := map[string]bool{}
		for _, c := range cells {
			has[fmt.Sprint(c.Signs)] = true
			if s, _ := Signs(planes, c.Direction); !slices.Equal(s, c.Signs) {
				t.Fatalf("the representative of %d has the signs %d", c.Signs, s)
			}
		}
		faces := [4]int{}
		for _, c := range cells {
			opposite := slices.Clone(c.Signs)
			var zeros []vector.Vec
			for i := range opposite {
				opposite[i] = -opposite[i]
				if opposite[i] == 0 {
					v, _ := vector.Read(planes[i])
					zeros = append(zeros, v)
				}
			}
			if !has[fmt.Sprint(opposite)] {
				t.Fatalf("%v has %d, but not the opposite", planes, c.Signs)
			}
			faces[3-len(lineality(zeros))]++
		}
		if len(lineality(normals(t, planes))) == 0 && faces[0]-faces[1]+faces[2] != 2 {
			t.Fatalf("the cells of %v do not satisfy the formula of Euler: %d", planes, faces)
		}
		less, _ := Cells(planes[:len(planes)-1])
		shorter := map[string]bool{}
		for _, c := range cells {
			shorter[fmt.Sprint(c.Signs[:len(c.Signs)-1])] = true
		}
		if len(less) != len(shorter) {
			t.Fatalf("%d cells without the last plane, not %d", len(shorter), len(less))
		}
		d := vector.Of(api.Vector{r.Intn(7) - 3, r.Intn(7) - 3, 1}).Point()
		c, e := Find(planes, d)
		if e != api.OK || !has[fmt.Sprint(c.Signs)] {
			t.Fatalf("Find(%v; %v) = %v, %d", planes, d, c, e)
		}
	}
}

func BenchmarkCellsOfTwelvePlanes(b *testing.B) {
	var l []api.Point
	for i := range 12 {
		l = append(l, vector.Of(api.Vector{1, i, i*i - 7}).Point())
	}
	for b.Loop() {
		Cells(l)
	}
}

func BenchmarkTreeOfTwelvePlanes(b *testing.B) {
	var l []api.Point
	for i := range 12 {
		l = append(l, vector.Of(api.Vector{1, i, i*i - 7}).Point())
	}
	for b.Loop() {
		Tree(l)
	}
}
