package cone

import (
	"math/rand"
	"slices"
	"strings"
	"testing"

	"dowel/api"
	"dowel/rational"
)

// read returns the vectors that are written with commas between them.
func read(text string) [][]api.Number {
	var l [][]api.Number
	for part := range strings.SplitSeq(text, ",") {
		var v []api.Number
		for word := range strings.FieldsSeq(part) {
			v = append(v, api.Number(word))
		}
		if len(v) > 0 {
			l = append(l, v)
		}
	}
	return l
}

func write(l [][]api.Number) string {
	var parts []string
	for _, v := range l {
		var words []string
		for _, n := range v {
			words = append(words, string(n))
		}
		parts = append(parts, strings.Join(words, " "))
	}
	return strings.Join(parts, ", ")
}

func form(c Cone) string { return write(c.Lines) + "; " + write(c.Rays) }

func generate(t *testing.T, dim int, lines, rays string) Cone {
	t.Helper()
	c, e := Generate(dim, read(lines), read(rays))
	if e != api.OK {
		t.Fatalf("Generate(%d; %s; %s): %d", dim, lines, rays, e)
	}
	return c
}

func vectors(count, size int) [][]api.Number {
	l := make([][]api.Number, count)
	for i := range l {
		l[i] = slices.Repeat([]api.Number{"1"}, size)
	}
	return l
}

// moments returns vectors of the dimension 8 whose cone has very many faces.
func moments(count int) [][]api.Number {
	var l [][]api.Number
	for i := range count {
		power, v := rational.From(1), []api.Number{}
		for range MaxDim {
			v = append(v, power.Number())
			power = rational.Mul(power, rational.From(i+1))
		}
		l = append(l, v)
	}
	return l
}

// samples returns cones of several dimensions and kinds.
func samples(t *testing.T, dim, count int) []Cone {
	r := rand.New(rand.NewSource(int64(dim)))
	var l []Cone
	for len(l) < count {
		var lists [2][][]api.Number
		for i := range lists {
			for range r.Intn([]int{2, dim + 3}[i]) {
				v := make([]api.Number, dim)
				for k := range v {
					v[k] = rational.From(r.Intn(5) - 2).Number()
				}
				lists[i] = append(lists[i], v)
			}
		}
		c, e := Generate(dim, lists[0], lists[1])
		if e != api.OK || Check(c) != api.OK {
			t.Fatalf("Generate(%s; %s): %d", write(lists[0]), write(lists[1]), e)
		}
		l = append(l, c)
	}
	return l
}

// P8.1
func TestGenerate(t *testing.T) {
	for _, c := range []struct {
		dim               int
		lines, rays, want string
	}{
		{2, "", "1 0, 2 2, 1 3", "; 1 0, 1 3"}, {2, "", "", "; "}, {2, "", "0 0", "; "}, {2, "0 0", "", "; "}, {1, "", "1, 1/2, 7", "; 1"}, {1, "", "1, -1", "1; "}, {1, "", "-1/3", "; -1"},
		{2, "", "1 0, -1 0, 0 1", "1 0; 0 1"}, {2, "", "1 0, -1 1, 0 -1", "1 0, 0 1; "}, {3, "2 -2 0", "0 0 1, 0 0 -1, -1 -1 0", "1 -1 0, 0 0 1; 0 -1 0"},
		{3, "", "1 0 0, 0 1 0, 0 0 1, 1 1 1, 1/2 0 1/3", "; 0 0 1, 0 1 0, 1 0 0"}, {3, "", "1 1 1, 1 -1 1, -1 1 1, -1 -1 1, 0 0 1, 1/2 1/2 1", "; -1 -1 1, -1 1 1, 1 -1 1, 1 1 1"},
		{3, "1 1 0, 2 2 0", "3 4 0", "1 1 0; 0 1 0"}, {2, "1 0, 0 1", "5 -7", "1 0, 0 1; "},
	} {
		if got := form(generate(t, c.dim, c.lines, c.rays)); got != c.want {
			t.Errorf("Generate(%d; %s; %s) = %s, not %s", c.dim, c.lines, c.rays, got, c.want)
		}
	}
	for i, c := range []struct {
		dim         int
		lines, rays [][]api.Number
		e           api.Errno
	}{
		{0, read("x"), nil, api.ErrRange}, {9, nil, nil, api.ErrRange}, {-1, nil, nil, api.ErrRange}, {2, vectors(25, 3), nil, api.ErrLimit}, {2, vectors(24, 2), vectors(256, 2), api.OK}, {2, vectors(24, 3), vectors(257, 2), api.ErrSize}, {2, vectors(24, 2), vectors(257, 2), api.ErrLimit},
		{2, read("1 1, x"), nil, api.ErrSize}, {2, read("1 2/4, x"), nil, api.ErrForm}, {2, read("1 1"), read("1 x, 1"), api.ErrSyntax}, {2, nil, read("1 1, 1"), api.ErrSize}, {8, nil, moments(20), api.ErrLimit}, {8, nil, moments(256), api.ErrLimit}, {8, nil, moments(12), api.OK},
	} {
		if got, e := Generate(c.dim, c.lines, c.rays); e != c.e || e != api.OK && !Equal(got, Cone{}) {
			t.Errorf("%d: Generate: %d, not %d", i, e, c.e)
		}
	}
}

// P8.1
func TestCheck(t *testing.T) {
	for i, c := range []struct {
		c Cone
		e api.Errno
	}{
		{Cone{Dim: 3}, api.OK}, {Cone{Dim: 2, Lines: read("1 0"), Rays: read("0 1")}, api.OK}, {Cone{Dim: 3, Lines: read("1 -1 0, 0 0 1"), Rays: read("0 -1 0")}, api.OK}, {Cone{Dim: 1, Lines: read("1")}, api.OK},
		{Cone{}, api.ErrRange}, {Cone{Dim: 9}, api.ErrRange}, {Cone{Dim: 2, Lines: vectors(9, 2)}, api.ErrLimit}, {Cone{Dim: 2, Lines: read("1 x"), Rays: vectors(257, 2)}, api.ErrSyntax}, {Cone{Dim: 2, Rays: vectors(257, 2)}, api.ErrLimit}, {Cone{Dim: 2, Rays: read("1, 2")}, api.ErrSize}, {Cone{Dim: 8, Rays: moments(20)}, api.ErrLimit},
		{Cone{Dim: 2, Lines: read("2 0")}, api.ErrForm}, {Cone{Dim: 2, Lines: read("0 1, 1 0")}, api.ErrForm}, {Cone{Dim: 2, Lines: read("1 1, 0 1")}, api.ErrForm}, {Cone{Dim: 2, Lines: read("1 0"), Rays: read("1 1")}, api.ErrForm}, {Cone{Dim: 2, Lines: read("1 0"), Rays: read("0 2")}, api.ErrForm}, {Cone{Dim: 2, Lines: read("1 0"), Rays: read("0 1/2")}, api.ErrForm}, {Cone{Dim: 2, Rays: read("1 0, 0 1")}, api.ErrForm}, {Cone{Dim: 2, Rays: read("0 1, 1 0, 1 1")}, api.ErrForm}, {Cone{Dim: 2, Rays: read("0 1, 0 1")}, api.ErrForm}, {Cone{Dim: 2, Rays: read("-1 0, 1 0")}, api.ErrForm}, {Cone{Dim: 2, Rays: read("0 0")}, api.ErrForm},
	} {
		if e := Check(c.c); e != c.e {
			t.Errorf("%d: Check(%s): %d, not %d", i, form(c.c), e, c.e)
		}
		if c.e == api.OK {
			continue
		}
		good := Cone{Dim: 2}
		one := vectors(1, 2)[0]
		_, e1 := Dual(c.c)
		_, e2 := Contains(c.c, nil)
		_, e3 := Interior(c.c, nil)
		_, _, e4 := Refute(c.c, nil)
		_, e5 := Span(c.c)
		_, e6 := Intersect(c.c, Cone{})
		_, e7 := Sum(good, c.c)
		_, e8 := Subset(c.c, Cone{Dim: 99})
		for k, e := range []api.Errno{e1, e2, e3, e4, e5, e6, e7, e8} {
			if want := c.e; e != want {
				t.Errorf("%d, %d: %d, not %d", i, k, e, want)
			}
		}
		if l, is, e := Refute(good, one[:1]); l != nil || is || e != api.ErrSize {
			t.Errorf("Refute: %d", e)
		}
	}
}

// P8.2
func TestFromRowsAndDual(t *testing.T) {
	for _, c := range []struct {
		dim              int
		rows, cone, dual string
	}{
		{2, "1 0, 0 1", "; -1 0, 0 -1", "; 0 1, 1 0"}, {3, "1 1 0", "1 -1 0, 0 0 1; 0 -1 0", "; 1 1 0"}, {2, "1 0, -1 0, 0 1, 0 -1", "; ", "1 0, 0 1; "}, {2, "", "1 0, 0 1; ", "; "}, {2, "0 0", "1 0, 0 1; ", "; "}, {2, "1/2 1/3, 3 2", "1 -3/2; 0 -1", "; 3 2"},
		{3, "1 0 -1, -1 0 -1, 0 1 -1, 0 -1 -1", "; -1 -1 1, -1 1 1, 1 -1 1, 1 1 1", "; -1 0 -1, 0 -1 -1, 0 1 -1, 1 0 -1"},
	} {
		f, e := FromRows(c.dim, read(c.rows))
		if form(f) != c.cone || e != api.OK {
			t.Errorf("FromRows(%s) = %s, %d", c.rows, form(f), e)
		}
		if d, e := Dual(f); form(d) != c.dual || e != api.OK {
			t.Errorf("Dual(%s) = %s, %d", form(f), form(d), e)
		}
	}
}

// P8.2
func TestErrorsOfFromRows(t *testing.T) {
	for i, c := range []struct {
		dim  int
		rows [][]api.Number
		e    api.Errno
	}{{0, read("x"), api.ErrRange}, {9, nil, api.ErrRange}, {2, vectors(25, 3), api.ErrLimit}, {2, vectors(24, 2), api.OK}, {2, read("1 1, 1"), api.ErrSize}, {2, read("1 1/0, 1"), api.ErrZero}, {8, moments(20), api.ErrLimit}, {8, moments(12), api.OK}} {
		if got, e := FromRows(c.dim, c.rows); e != c.e || e != api.OK && !Equal(got, Cone{}) {
			t.Errorf("%d: FromRows: %d, not %d", i, e, c.e)
		}
	}
}

// P8.3
func TestContainsInteriorRefute(t *testing.T) {
	wedge, half, line, all := generate(t, 2, "", "1 0, 1 3"), generate(t, 2, "1 0", "0 1"), generate(t, 2, "1 2", ""), generate(t, 2, "1 0, 0 1", "")
	for _, c := range []struct {
		c                Cone
		x                string
		belongs, isInner bool
		row              string
	}{
		{wedge, "0 1", false, false, "-3 1"}, {wedge, "1 1", true, true, ""}, {wedge, "1 0", true, false, ""}, {wedge, "0 0", true, false, ""}, {wedge, "1 -1/2", false, false, "0 -1"}, {wedge, "-1 -1", false, false, "-3 1"},
		{half, "-5 0", true, false, ""}, {half, "-5 1/9", true, true, ""}, {half, "0 -1", false, false, "0 -1"},
		{line, "-1 -2", true, false, ""}, {line, "1 0", false, false, "1 -1/2"}, {line, "0 1", false, false, "-1 1/2"},
		{all, "0 0", true, true, ""}, {all, "3 -1", true, true, ""}, {Cone{Dim: 2}, "0 0", true, false, ""}, {Cone{Dim: 2}, "0 -2", false, false, "0 -1"},
	} {
		x := read(c.x)[0]
		belongs, e1 := Contains(c.c, x)
		isInner, e2 := Interior(c.c, x)
		row, refuted, e3 := Refute(c.c, x)
		if belongs != c.belongs || isInner != c.isInner || refuted == c.belongs || write([][]api.Number{row}) != c.row || e1 != api.OK || e2 != api.OK || e3 != api.OK {
			t.Errorf("%s of %s: %t, %t, %s", c.x, form(c.c), belongs, isInner, row)
		}
	}
	for _, c := range []struct {
		x string
		e api.Errno
	}{{"1 2 3", api.ErrSize}, {"x", api.ErrSize}, {"1 2/4", api.ErrForm}, {"1/0 x", api.ErrZero}} {
		x := read(c.x)[0]
		if is, e := Contains(wedge, x); is || e != c.e {
			t.Errorf("Contains: %d", e)
		}
		if is, e := Interior(all, read("1 2 3")[0]); is || e != api.ErrSize {
			t.Errorf("Interior: %d", e)
		}
		if is, e := Interior(wedge, x); is || e != c.e {
			t.Errorf("Interior: %d", e)
		}
		if row, is, e := Refute(wedge, x); is || row != nil || e != c.e {
			t.Errorf("Refute: %d", e)
		}
	}
}

// P8.4
func TestSpanIntersectSumSubset(t *testing.T) {
	a, b := generate(t, 3, "", "1 0 0, 0 1 0"), generate(t, 3, "0 0 1", "1 1 0, 1 -1 0")
	for _, c := range []struct {
		c    Cone
		span int
	}{{a, 2}, {b, 3}, {Cone{Dim: 3}, 0}, {generate(t, 3, "1 1 1", ""), 1}, {generate(t, 3, "", "1 1 1, 1 1 0, 0 0 1"), 2}} {
		if n, e := Span(c.c); n != c.span || e != api.OK {
			t.Errorf("Span(%s) = %d, %d", form(c.c), n, e)
		}
	}
	if c, e := Intersect(a, b); form(c) != "; 1 0 0, 1 1 0" || e != api.OK {
		t.Errorf("Intersect = %s, %d", form(c), e)
	}
	if c, e := Sum(a, b); form(c) != "0 0 1; 0 1 0, 1 -1 0" || e != api.OK {
		t.Errorf("Sum = %s, %d", form(c), e)
	}
	for _, c := range []struct {
		a, b Cone
		is   bool
	}{{a, a, true}, {a, b, false}, {generate(t, 3, "", "1 0 0"), b, true}, {generate(t, 3, "0 0 1", ""), b, true}, {b, generate(t, 3, "", "0 0 1, 1 1 0, 1 -1 0"), false}, {Cone{Dim: 3}, a, true}, {a, Cone{Dim: 3}, false}} {
		if is, e := Subset(c.a, c.b); is != c.is || e != api.OK {
			t.Errorf("Subset(%s, %s) = %t, %d", form(c.a), form(c.b), is, e)
		}
	}
	flat := Cone{Dim: 2}
	if c, e := Intersect(a, flat); e != api.ErrSize || !Equal(c, Cone{}) {
		t.Errorf("Intersect: %d", e)
	}
	if c, e := Sum(flat, a); e != api.ErrSize || !Equal(c, Cone{}) {
		t.Errorf("Sum: %d", e)
	}
	if is, e := Subset(flat, a); e != api.ErrSize || is {
		t.Errorf("Subset: %d", e)
	}
	x, y := Cone{Dim: 8, Rays: moments(22)[:11]}, Cone{Dim: 8, Rays: moments(22)[11:]}
	if c, e := Sum(x, y); e != api.ErrLimit || !Equal(c, Cone{}) {
		t.Errorf("Sum: %d", e)
	}
	x, e1 := Dual(x)
	y, e2 := Dual(y)
	if c, e := Intersect(x, y); e != api.ErrLimit || !Equal(c, Cone{}) || e1 != api.OK || e2 != api.OK {
		t.Errorf("Intersect: %d, %d, %d", e, e1, e2)
	}
	if Equal(a, b) || !Equal(Cone{Dim: 2, Lines: [][]api.Number{}}, flat) || Equal(Cone{Dim: 3}, flat) || Equal(Cone{Dim: 2, Rays: read("1 0")}, Cone{Dim: 2, Lines: read("1 0")}) {
		t.Error("Equal")
	}
}

// P8.5
func TestConsequences(t *testing.T) {
	r := rand.New(rand.NewSource(3))
	for dim := 1; dim <= 5; dim++ {
		l := samples(t, dim, 40)
		for i, a := range l {
			b := l[(i*7+1)%len(l)]
			dualA, e1 := Dual(a)
			dualB, e2 := Dual(b)
			back, e3 := Dual(dualA)
			if e1 != api.OK || e2 != api.OK || e3 != api.OK || !Equal(back, a) {
				t.Fatalf("the dual of the dual of %s is %s", form(a), form(back))
			}
			both, _ := Intersect(a, b)
			sum, _ := Sum(dualA, dualB)
			if d, _ := Dual(both); !Equal(d, sum) || Check(both) != api.OK {
				t.Fatalf("the intersection of %s and %s is %s", form(a), form(b), form(both))
			}
			isAB, _ := Subset(a, b)
			isBA, _ := Subset(b, a)
			if Equal(a, b) != (isAB && isBA) {
				t.Fatalf("Subset of %s and %s", form(a), form(b))
			}
			if n, _ := Span(a); n+len(dualA.Lines) != dim {
				t.Fatalf("Span of %s = %d", form(a), n)
			}
			checkAgain(t, r, a)
			checkRefute(t, r, a, dualA)
		}
	}
}

// checkAgain generates a cone again, in another order and with further vectors.
func checkAgain(t *testing.T, r *rand.Rand, c Cone) {
	t.Helper()
	rays := slices.Clone(c.Rays)
	for _, v := range c.Rays {
		w := make([]api.Number, len(v))
		o := c.Rays[r.Intn(len(c.Rays))]
		for i := range v {
			x, _ := rational.Reads([]api.Number{v[i], o[i]})
			w[i] = rational.Add(rational.Mul(x[0], rational.From(3)), x[1]).Number()
		}
		rays = append(rays, w)
	}
	r.Shuffle(len(rays), func(i, k int) { rays[i], rays[k] = rays[k], rays[i] })
	if again, e := Generate(c.Dim, append(slices.Clone(c.Lines), c.Lines...), rays); e != api.OK || !Equal(again, c) {
		t.Fatalf("%s, generated again, is %s", form(c), form(again))
	}
}

// checkRefute compares Contains and Refute by the products with the rows of the dual.
func checkRefute(t *testing.T, r *rand.Rand, c, dual Cone) {
	t.Helper()
	for range 10 {
		x := make([]rational.Rat, c.Dim)
		for i := range x {
			x[i] = rational.From(r.Intn(5) - 2)
		}
		product := func(v []api.Number) rational.Rat {
			l, _ := rational.Reads(v)
			var sum rational.Rat
			for i := range l {
				sum = rational.Add(sum, rational.Mul(l[i], x[i]))
			}
			return sum
		}
		belongs := true
		for _, v := range dual.Lines {
			belongs = belongs && product(v).Sign() == 0
		}
		for _, v := range dual.Rays {
			belongs = belongs && product(v).Sign() <= 0
		}
		row, refuted, e := Refute(c, rational.Numbers(x))
		if is, _ := Contains(c, rational.Numbers(x)); e != api.OK || is != belongs || refuted == belongs || refuted && product(row).Sign() <= 0 {
			t.Fatalf("%s and %s: %t, %s", form(c), rational.Numbers(x), is, row)
		}
	}
}

// Faces of cones with many neighbours: the cone over a cube has as many faces as its dual has corners.
func TestCubes(t *testing.T) {
	for dim := 2; dim <= MaxDim; dim++ {
		var rows [][]api.Number
		for i := range dim - 1 {
			for _, sign := range []api.Number{"1", "-1"} {
				v := slices.Repeat([]api.Number{"0"}, dim)
				v[i], v[dim-1] = sign, "-1"
				rows = append(rows, v)
			}
		}
		c, e := FromRows(dim, rows)
		if e != api.OK || len(c.Rays) != 1<<(dim-1) || len(c.Lines) != 0 || Check(c) != api.OK {
			t.Errorf("the cone over the cube of the dimension %d has %d rays, %d", dim-1, len(c.Rays), e)
		}
		if d, e := Dual(c); e != api.OK || len(d.Rays) != 2*(dim-1) {
			t.Errorf("its dual has %d rays, %d", len(d.Rays), e)
		}
	}
}

func TestArgumentsRemain(t *testing.T) {
	lines, rays := read("0 0 1"), read("2 0 0, 0 3 0")
	c, _ := Generate(3, lines, rays)
	before := form(c)
	d, _ := Dual(c)
	d.Rays[0][0] = "9"
	s, _ := Sum(c, c)
	s.Rays[0][0], s.Lines[0][0] = "9", "9"
	Refute(c, read("-1 0 0")[0])
	if write(lines) != "0 0 1" || write(rays) != "2 0 0, 0 3 0" || form(c) != before {
		t.Error("an argument has changed")
	}
}
