package matrix

import (
	"math/rand"
	"slices"
	"strings"
	"testing"

	"dowel/api"
	"dowel/rational"
)

// read returns the matrix that is written as rows with commas between them.
func read(t *testing.T, text string) Matrix {
	t.Helper()
	var l [][]api.Number
	for row := range strings.SplitSeq(text, ",") {
		var numbers []api.Number
		for word := range strings.FieldsSeq(row) {
			numbers = append(numbers, api.Number(word))
		}
		if text != "" {
			l = append(l, numbers)
		}
	}
	m, e := Parse(l)
	if e != api.OK {
		t.Fatalf("Parse(%q): %d", text, e)
	}
	return m
}

func row(t *testing.T, text string) []rational.Rat {
	t.Helper()
	if text == "" {
		return nil
	}
	return read(t, text)[0]
}

func write(m Matrix) string {
	var rows []string
	for _, l := range Numbers(m) {
		var words []string
		for _, n := range l {
			words = append(words, string(n))
		}
		rows = append(rows, strings.Join(words, " "))
	}
	return strings.Join(rows, ", ")
}

func expect(t *testing.T, what string, m Matrix, e api.Errno, text string, want api.Errno) {
	t.Helper()
	if write(m) != text || e != want || e != api.OK && m != nil {
		t.Errorf("%s = %s, %d, not %s, %d", what, write(m), e, text, want)
	}
}

// sized returns a matrix of zeros, whether it is valid or not.
func sized(rows, columns int) Matrix { return zeros(rows, columns) }

// random returns a matrix of small fractions, whose rows are often combinations of others.
func random(r *rand.Rand, rows, columns int) Matrix {
	m := zeros(rows, columns)
	for i := range m {
		for k := range m[i] {
			m[i][k], _ = rational.Div(rational.From(r.Intn(7)-3), rational.From(1+r.Intn(3)))
		}
		if i > 1 && r.Intn(3) == 0 {
			for k := range m[i] {
				m[i][k] = rational.Sub(m[i-1][k], rational.Add(m[i-2][k], m[i-2][k]))
			}
		}
	}
	return m
}

// invalid returns matrices that are not valid, with their errors.
func invalid() map[api.Errno]Matrix {
	ragged := sized(3, 4)
	ragged[2] = ragged[2][:3]
	return map[api.Errno]Matrix{api.ErrLimit: sized(2, MaxColumns+1), api.ErrSize: ragged}
}

// P5.1
func TestSizeAndParse(t *testing.T) {
	long := sized(3, 3)
	long[1], long[2] = make([]rational.Rat, MaxColumns+1), nil
	ragged := sized(3, 3)
	ragged[1], ragged[2] = nil, make([]rational.Rat, MaxColumns+1)
	for i, c := range []struct {
		m             Matrix
		rows, columns int
		e             api.Errno
	}{
		{nil, 0, 0, api.OK}, {sized(3, 0), 3, 0, api.OK}, {sized(2, 5), 2, 5, api.OK}, {sized(api.MaxRows, MaxColumns), api.MaxRows, MaxColumns, api.OK},
		{sized(api.MaxRows+1, 1), 0, 0, api.ErrLimit}, {sized(1, MaxColumns+1), 0, 0, api.ErrLimit}, {long, 0, 0, api.ErrLimit}, {ragged, 0, 0, api.ErrSize}, {invalid()[api.ErrSize], 0, 0, api.ErrSize},
	} {
		rows, columns, e := Size(c.m)
		if rows != c.rows || columns != c.columns || e != c.e {
			t.Errorf("%d: Size = %d, %d, %d", i, rows, columns, e)
		}
		if m, e := Parse(Numbers(c.m)); e != c.e || e == api.OK && !Equal(m, c.m) || e != api.OK && m != nil {
			t.Errorf("%d: Parse: %d", i, e)
		}
	}
	for i, c := range []struct {
		l [][]api.Number
		e api.Errno
	}{{[][]api.Number{{"x", "2/4"}, {"1"}}, api.ErrSize}, {[][]api.Number{{"1", "2/4"}, {"x", "1"}}, api.ErrForm}, {[][]api.Number{{"1", "2"}, {"3", api.Number(strings.Repeat("1", api.MaxNumber+1))}}, api.ErrLong}} {
		if m, e := Parse(c.l); e != c.e || m != nil {
			t.Errorf("%d: Parse: %d", i, e)
		}
	}
	if got := write(Matrix{row(t, "1 -1/2"), nil, row(t, "3")}); got != "1 -1/2, , 3" {
		t.Errorf("Numbers of any rows = %s", got)
	}
	a := read(t, "1 2,3 4")
	if !Equal(a, read(t, "1 2,3 4")) || Equal(a, read(t, "1 2,3 5")) || Equal(a, read(t, "1 2")) || Equal(a, Matrix{a[0], a[1][:1]}) || !Equal(nil, Matrix{}) || Equal(nil, sized(1, 0)) {
		t.Error("Equal")
	}
}

// P5.2
func TestIdentityAndTranspose(t *testing.T) {
	m, e := Identity(3)
	expect(t, "Identity", m, e, "1 0 0, 0 1 0, 0 0 1", api.OK)
	m, e = Identity(0)
	expect(t, "Identity", m, e, "", api.OK)
	if m, e := Identity(MaxColumns); e != api.OK || len(m) != MaxColumns {
		t.Errorf("Identity: %d", e)
	}
	for _, n := range []int{-1, MaxColumns + 1} {
		if m, e := Identity(n); e != api.ErrRange || m != nil {
			t.Errorf("Identity(%d): %d", n, e)
		}
	}
	m, e = Transpose(read(t, "1 2 3,4 5 6"))
	expect(t, "Transpose", m, e, "1 4, 2 5, 3 6", api.OK)
	m, e = Transpose(nil)
	expect(t, "Transpose", m, e, "", api.OK)
	m, e = Transpose(sized(4, 0))
	expect(t, "Transpose", m, e, "", api.OK)
	if m, e := Transpose(sized(MaxColumns+5, 2)); e != api.OK || len(m) != 2 || len(m[1]) != MaxColumns+5 {
		t.Errorf("Transpose of a long matrix: %d", e)
	}
}

// P5.2
func TestProducts(t *testing.T) {
	a, b := read(t, "1 2,3 4,0 1/2"), read(t, "1 0 -1,2 1/2 0")
	m, e := Mul(a, b)
	expect(t, "Mul", m, e, "5 1 -1, 11 2 -3, 1 1/4 0", api.OK)
	m, e = Mul(b, b)
	expect(t, "Mul", m, e, "", api.ErrSize)
	m, e = Mul(nil, b)
	expect(t, "Mul", m, e, "", api.OK)
	m, e = Mul(a, nil)
	expect(t, "Mul", m, e, "", api.ErrSize)
	m, e = Mul(sized(2, 0), nil)
	if len(m) != 2 || len(m[0]) != 0 || e != api.OK {
		t.Errorf("Mul of rows without numbers: %d, %d", len(m), e)
	}
	x, e := Apply(a, row(t, "2 -1"))
	expect(t, "Apply", Matrix{x}, e, "0 2 -1/2", api.OK)
	if x, e := Apply(a, row(t, "2 -1 0")); e != api.ErrSize || x != nil {
		t.Errorf("Apply: %d", e)
	}
	if x, e := Apply(nil, row(t, "2 -1 0")); e != api.OK || len(x) != 0 {
		t.Errorf("Apply without rows: %d", e)
	}
}

// P5.3
func TestReduceRankKernel(t *testing.T) {
	for _, c := range []struct {
		m, r   string
		pivots []int
		kernel string
	}{
		{"2 4 6,1 2 4", "1 2 0, 0 0 1", []int{0, 2}, "-2 1 0"},
		{"0 0,0 0", "", nil, "1 0, 0 1"},
		{"1 2,3 4", "1 0, 0 1", []int{0, 1}, ""},
		{"0 -3 6 1/2", "0 1 -2 -1/6", []int{1}, "1 0 0 0, 0 2 1 0, 0 1/6 0 1"},
		{"1/2 1/3,1/4 1/6,-1 0", "1 0, 0 1", []int{0, 1}, ""},
	} {
		m := read(t, c.m)
		r, pivots, e := Reduce(m)
		expect(t, "Reduce", r, e, c.r, api.OK)
		if rank, e := Rank(m); !slices.Equal(pivots, c.pivots) || rank != len(c.pivots) || e != api.OK {
			t.Errorf("%s: pivots %d, rank %d, %d", c.m, pivots, rank, e)
		}
		k, e := Kernel(m, len(m[0]))
		expect(t, "Kernel", k, e, c.kernel, api.OK)
	}
	k, e := Kernel(nil, 2)
	expect(t, "Kernel", k, e, "1 0, 0 1", api.OK)
	k, e = Kernel(nil, 0)
	expect(t, "Kernel", k, e, "", api.OK)
	m := read(t, "1 2")
	for _, c := range []struct {
		m       Matrix
		columns int
		e       api.Errno
	}{{m, 3, api.ErrSize}, {m, -1, api.ErrSize}, {m, 97, api.ErrSize}, {nil, -1, api.ErrRange}, {nil, MaxColumns + 1, api.ErrRange}} {
		k, e := Kernel(c.m, c.columns)
		expect(t, "Kernel", k, e, "", c.e)
	}
}

// P5.4
func TestSolveAndCombine(t *testing.T) {
	for _, c := range []struct {
		m, b, x string
		e       api.Errno
	}{
		{"1 1,1 -1", "3 0", "3/2 3/2", api.OK}, {"1 1,2 2", "1 3", "", api.ErrInfeasible}, {"1 1,2 2", "1 2", "1 0", api.OK}, {"0 0 2,0 3 0", "1 1", "0 1/3 1/2", api.OK}, {"0 0", "0", "0 0", api.OK}, {"0 0", "1", "", api.ErrInfeasible}, {"1 1", "1 2", "", api.ErrSize}, {"1 1", "", "", api.ErrSize}, {"", "", "", api.OK}, {"", "1", "", api.ErrSize},
	} {
		x, e := Solve(read(t, c.m), row(t, c.b))
		if write(Matrix{x}) != c.x || e != c.e {
			t.Errorf("Solve(%s; %s) = %s, %d", c.m, c.b, write(Matrix{x}), e)
		}
	}
	for _, c := range []struct {
		m, x, factors string
		e             api.Errno
	}{
		{"1 0 1,2 0 2,0 1 1", "3 -1 2", "3 0 -1", api.OK}, {"1 0 1,2 0 2,0 1 1", "3 -1 1", "", api.ErrInfeasible}, {"1 2", "0 0", "0", api.OK}, {"1 2", "1 2 3", "", api.ErrSize}, {"", "", "", api.OK}, {"", "0", "", api.ErrSize}, {"0 0,1 1", "1/2 1/2", "0 1/2", api.OK},
	} {
		x, e := Combine(read(t, c.m), row(t, c.x))
		if write(Matrix{x}) != c.factors || e != c.e {
			t.Errorf("Combine(%s; %s) = %s, %d", c.m, c.x, write(Matrix{x}), e)
		}
	}
	if x, e := Combine(sized(3, 0), nil); e != api.OK || write(Matrix{x}) != "0 0 0" {
		t.Errorf("Combine of rows without numbers = %s, %d", write(Matrix{x}), e)
	}
	if x, e := Solve(sized(3, 0), row(t, "0 0 0")); e != api.OK || len(x) != 0 {
		t.Errorf("Solve without unknowns: %d", e)
	}
	if _, e := Solve(sized(3, 0), row(t, "0 1 0")); e != api.ErrInfeasible {
		t.Errorf("Solve without unknowns: %d", e)
	}
}

// P5.5
func TestDeterminantAndInverse(t *testing.T) {
	for _, c := range []struct {
		m       string
		d       api.Number
		inverse string
		e       api.Errno
	}{
		{"1 2,3 4", "-2", "-2 1, 3/2 -1/2", api.OK}, {"0 1,1 0", "-1", "0 1, 1 0", api.OK}, {"1/2 1/3,1/5 1/7", "1/210", "30 -70, -42 105", api.OK}, {"1 2,2 4", "0", "", api.ErrSingular}, {"0 0,0 0", "0", "", api.ErrSingular}, {"0 1,0 2", "0", "", api.ErrSingular}, {"", "1", "", api.OK}, {"0 0 1,1 0 0,0 1 0", "1", "0 1 0, 0 0 1, 1 0 0", api.OK}, {"-3", "-3", "-1/3", api.OK},
	} {
		m := read(t, c.m)
		if d, e := Determinant(m); d.Number() != c.d || e != api.OK {
			t.Errorf("Determinant(%s) = %s, %d", c.m, d.Number(), e)
		}
		x, e := Inverse(m)
		expect(t, "Inverse", x, e, c.inverse, c.e)
	}
	for _, m := range []Matrix{read(t, "1 2"), read(t, "1,2"), sized(2, 0)} {
		if d, e := Determinant(m); e != api.ErrSize || d.Sign() != 0 {
			t.Errorf("Determinant(%s): %d", write(m), e)
		}
		x, e := Inverse(m)
		expect(t, "Inverse", x, e, "", api.ErrSize)
	}
}

func TestErrorsOfSize(t *testing.T) {
	for want, m := range invalid() {
		x := make([]rational.Rat, 99)
		calls := map[string]func() (any, bool, api.Errno){
			"Transpose":   func() (any, bool, api.Errno) { r, e := Transpose(m); return r, r == nil, e },
			"Mul":         func() (any, bool, api.Errno) { r, e := Mul(m, sized(1, 2)); return r, r == nil, e },
			"Mul2":        func() (any, bool, api.Errno) { r, e := Mul(sized(1, 2), m); return r, r == nil, e },
			"Apply":       func() (any, bool, api.Errno) { r, e := Apply(m, x); return r, r == nil, e },
			"Reduce":      func() (any, bool, api.Errno) { r, p, e := Reduce(m); return r, r == nil && p == nil, e },
			"Rank":        func() (any, bool, api.Errno) { r, e := Rank(m); return r, r == 0, e },
			"Kernel":      func() (any, bool, api.Errno) { r, e := Kernel(m, -1); return r, r == nil, e },
			"Solve":       func() (any, bool, api.Errno) { r, e := Solve(m, x); return r, r == nil, e },
			"Combine":     func() (any, bool, api.Errno) { r, e := Combine(m, x); return r, r == nil, e },
			"Determinant": func() (any, bool, api.Errno) { r, e := Determinant(m); return r, r.Sign() == 0, e },
			"Inverse":     func() (any, bool, api.Errno) { r, e := Inverse(m); return r, r == nil, e },
		}
		for name, call := range calls {
			if r, isZero, e := call(); e != want || !isZero {
				t.Errorf("%s = %v, %d, not %d", name, r, e, want)
			}
		}
	}
	if _, e := Mul(invalid()[api.ErrSize], invalid()[api.ErrLimit]); e != api.ErrSize {
		t.Errorf("Mul: %d", e)
	}
}

// isReduced reports whether a matrix is reduced, with some pivots.
func isReduced(r Matrix, pivots []int) bool {
	for i, p := range pivots {
		for k := range p + 1 {
			if (k == p) != (r[i][k].Number() == "1") || k < p && r[i][k].Sign() != 0 {
				return false
			}
		}
		for k := range r {
			if k != i && r[k][p].Sign() != 0 {
				return false
			}
		}
	}
	return len(r) == len(pivots) && slices.IsSorted(pivots)
}

// isCombination reports whether the rows of b are combinations of those of a.
func isCombination(t *testing.T, a, b Matrix) bool {
	for _, x := range b {
		factors, e := Combine(a, x)
		if e != api.OK {
			return false
		}
		sum, e := Mul(Matrix{factors}, a)
		if len(a) == 0 {
			sum, e = sized(1, len(x)), api.OK
		}
		if e != api.OK || !Equal(sum, Matrix{x}) {
			t.Fatalf("Combine is wrong")
		}
	}
	return true
}

// P5.3, P5.4, P5.6
func TestConsequences(t *testing.T) {
	r := rand.New(rand.NewSource(5))
	for range 200 {
		m := random(r, r.Intn(7), 1+r.Intn(7))
		columns := 5
		if len(m) > 0 {
			columns = len(m[0])
		}
		reduced, pivots, _ := Reduce(m)
		if !isReduced(reduced, pivots) || len(m) > 0 && (!isCombination(t, m, reduced) || len(reduced) > 0 && !isCombination(t, reduced, m)) {
			t.Fatalf("Reduce(%s) = %s", write(m), write(reduced))
		}
		if again, p, _ := Reduce(reduced); !Equal(again, reduced) || !slices.Equal(p, pivots) {
			t.Fatalf("Reduce of %s is %s", write(reduced), write(again))
		}
		transposed, _ := Transpose(m)
		rank, _ := Rank(m)
		rankT, _ := Rank(transposed)
		kernel, e := Kernel(m, columns)
		if e != api.OK || rank != rankT || rank+len(kernel) != columns {
			t.Fatalf("%s: the rank is %d, %d, the kernel has %d vectors", write(m), rank, rankT, len(kernel))
		}
		for _, x := range kernel {
			y, _ := Apply(m, x)
			if slices.ContainsFunc(y, func(a rational.Rat) bool { return a.Sign() != 0 }) {
				t.Fatalf("%s: %s is not in the kernel", write(m), write(Matrix{x}))
			}
		}
		x := random(r, 1, columns)[0]
		b, _ := Apply(m, x)
		if len(m) == 0 {
			continue
		}
		y, e := Solve(m, b)
		c, _ := Apply(m, y)
		if e != api.OK || !Equal(Matrix{c}, Matrix{b}) {
			t.Fatalf("Solve(%s; %s) = %s, %d", write(m), write(Matrix{b}), write(Matrix{y}), e)
		}
		for k := range y {
			if !slices.Contains(pivots, k) && y[k].Sign() != 0 {
				t.Fatalf("%s: the solution %s is not 0 at %d", write(m), write(Matrix{y}), k)
			}
		}
	}
}

// P5.5, P5.6
func TestDeterminantsOfProducts(t *testing.T) {
	r := rand.New(rand.NewSource(6))
	for range 100 {
		n := 1 + r.Intn(5)
		a, b := random(r, n, n), random(r, n, n)
		product, _ := Mul(a, b)
		x, _ := Determinant(a)
		y, _ := Determinant(b)
		z, _ := Determinant(product)
		if rational.Compare(rational.Mul(x, y), z) != 0 {
			t.Fatalf("the determinants %s, %s and %s", x.Number(), y.Number(), z.Number())
		}
		inverse, e := Inverse(a)
		if (e == api.OK) != (x.Sign() != 0) {
			t.Fatalf("Inverse(%s): %d", write(a), e)
		}
		one, _ := Identity(n)
		if p, _ := Mul(a, inverse); e == api.OK && !Equal(p, one) {
			t.Fatalf("Inverse(%s) = %s", write(a), write(inverse))
		}
		if n > 1 {
			a[0], a[1] = a[1], a[0]
			if d, _ := Determinant(a); rational.Compare(d, rational.Neg(x)) != 0 {
				t.Fatalf("exchanging two rows: %s, %s", x.Number(), d.Number())
			}
		}
	}
}

func TestArgumentsRemain(t *testing.T) {
	m := read(t, "2 4,1 3")
	b := row(t, "1 2")
	x, _ := Transpose(m)
	x[0][0] = rational.From(9)
	r, _, _ := Reduce(m)
	r[0][0] = rational.From(9)
	Solve(m, b)
	Combine(m, b)
	Inverse(m)
	Determinant(m)
	if write(m) != "2 4, 1 3" || write(Matrix{b}) != "1 2" {
		t.Error("an argument has changed")
	}
}

func BenchmarkReduce(b *testing.B) {
	m := random(rand.New(rand.NewSource(1)), api.MaxRows, MaxColumns)
	for b.Loop() {
		Reduce(m)
	}
}
