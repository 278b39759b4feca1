package integer

import (
	"math"
	"math/big"
	"math/rand"
	"strings"
	"testing"

	"dowel/api"
)

// samples returns integers of many sizes and both signs, with many bits that are 0 or 1 in a row.
func samples(count int) []Int {
	r := rand.New(rand.NewSource(1))
	l := []Int{{}, From(1), From(-1), From(math.MaxInt), From(math.MinInt), From(math.MinInt + 1), Neg(From(math.MinInt))}
	for len(l) < count {
		n := new(big.Int).Rand(r, new(big.Int).Lsh(big.NewInt(1), uint(1+r.Intn(900))))
		if r.Intn(3) == 0 {
			n.Lsh(n, uint(r.Intn(300)))
		}
		if r.Intn(3) == 0 {
			n.Sub(new(big.Int).Lsh(big.NewInt(1), uint(64*r.Intn(9))), n)
		}
		if r.Intn(2) == 0 {
			n.Neg(n)
		}
		a, _ := Parse(n.String())
		l = append(l, a)
	}
	return l
}

func bigOf(t *testing.T, a Int) *big.Int {
	t.Helper()
	n, ok := new(big.Int).SetString(a.Text(), 10)
	if !ok {
		t.Fatalf("no integer: %s", a.Text())
	}
	return n
}

func expect(t *testing.T, what string, a Int, n *big.Int) {
	t.Helper()
	if a.Text() != n.String() {
		t.Fatalf("%s = %s, not %s", what, a.Text(), n)
	}
	// An integer that is an int must be kept as one.
	if k, ok := a.Int(); ok != n.IsInt64() || ok && int64(k) != n.Int64() || !ok && k != 0 {
		t.Fatalf("%s: Int = %d, %t for %s", what, k, ok, n)
	}
}

// P1.1
func TestParseAndText(t *testing.T) {
	for _, c := range []struct {
		s string
		e api.Errno
	}{
		{"0", api.OK}, {"5", api.OK}, {"-5", api.OK}, {"9223372036854775807", api.OK}, {"-9223372036854775808", api.OK},
		{"9223372036854775808", api.OK}, {"-9223372036854775809", api.OK}, {"18446744073709551616", api.OK}, {"10000000000000000000", api.OK},
		{"1" + strings.Repeat("0", 38), api.OK}, {"-" + strings.Repeat("9", 500), api.OK}, {strings.Repeat("7", api.MaxBytes), api.OK},
		{"", api.ErrSyntax}, {"-", api.ErrSyntax}, {"+1", api.ErrSyntax}, {"--1", api.ErrSyntax}, {" 1", api.ErrSyntax}, {"1 ", api.ErrSyntax}, {"1.0", api.ErrSyntax}, {"a", api.ErrSyntax}, {"00x", api.ErrSyntax}, {"1-", api.ErrSyntax}, {"/", api.ErrSyntax}, {":", api.ErrSyntax},
		{"-0", api.ErrForm}, {"00", api.ErrForm}, {"01", api.ErrForm}, {"-01", api.ErrForm}, {"-00", api.ErrForm},
		{strings.Repeat("7", api.MaxBytes+1), api.ErrLong}, {strings.Repeat("x", api.MaxBytes+1), api.ErrLong}, {strings.Repeat("0", api.MaxBytes+1), api.ErrLong},
	} {
		a, e := Parse(c.s)
		if e != c.e {
			t.Errorf("Parse(%.40q): %d, not %d", c.s, e, c.e)
		}
		if want := c.s; e == api.OK && a.Text() != want || e != api.OK && a.Text() != "0" {
			t.Errorf("Parse(%.40q) = %.40s", c.s, a.Text())
		}
	}
	for _, n := range []int{0, 1, -1, math.MaxInt, math.MinInt} {
		expect(t, "From", From(n), big.NewInt(int64(n)))
	}
	var zero Int
	if zero.Text() != "0" || Compare(zero, From(0)) != 0 {
		t.Error("the zero value is not 0")
	}
}

// P1.2
func TestIntSignBitsCompare(t *testing.T) {
	l := samples(60)
	for _, a := range l {
		n := bigOf(t, a)
		expect(t, "a", a, n)
		if a.Sign() != n.Sign() || a.Bits() != n.BitLen() {
			t.Errorf("%s: Sign %d, Bits %d", n, a.Sign(), a.Bits())
		}
		for _, b := range l {
			if got := Compare(a, b); got != n.Cmp(bigOf(t, b)) {
				t.Errorf("Compare(%s, %s) = %d", a.Text(), b.Text(), got)
			}
		}
	}
	for n, bits := range map[int]int{0: 0, 1: 1, -1: 1, 255: 8, 256: 9, -256: 9, math.MinInt: 64, math.MaxInt: 63} {
		if got := From(n).Bits(); got != bits {
			t.Errorf("Bits of %d = %d", n, got)
		}
	}
}

// P1.3
func TestSumsAndProducts(t *testing.T) {
	l := samples(80)
	for _, a := range l {
		x := bigOf(t, a)
		expect(t, "Neg", Neg(a), new(big.Int).Neg(x))
		expect(t, "Abs", Abs(a), new(big.Int).Abs(x))
		for _, b := range l {
			y := bigOf(t, b)
			expect(t, "Add", Add(a, b), new(big.Int).Add(x, y))
			expect(t, "Sub", Sub(a, b), new(big.Int).Sub(x, y))
			expect(t, "Mul", Mul(a, b), new(big.Int).Mul(x, y))
		}
	}
	if Sum().Text() != "0" || Sum(From(5)).Text() != "5" || Sum(From(math.MaxInt), From(math.MaxInt), From(2)).Text() != "18446744073709551616" {
		t.Error("Sum")
	}
}

// Long products are made in another way than short ones.
func TestLongProducts(t *testing.T) {
	r := rand.New(rand.NewSource(2))
	for range 40 {
		x := new(big.Int).Rand(r, new(big.Int).Lsh(big.NewInt(1), uint(1+r.Intn(40000))))
		y := new(big.Int).Rand(r, new(big.Int).Lsh(big.NewInt(1), uint(1+r.Intn(12000))))
		if r.Intn(2) == 0 {
			y.Lsh(y, uint(r.Intn(6000)))
		}
		a, _ := Parse(x.String())
		b, _ := Parse(y.String())
		p := Mul(a, b)
		expect(t, "Mul", p, new(big.Int).Mul(x, y))
		if b.Sign() != 0 {
			q, rest, e := DivMod(p, b)
			if e != api.OK || Compare(q, a) != 0 || rest.Sign() != 0 {
				t.Fatalf("a product, divided, is another number: %d", e)
			}
		}
	}
	long := strings.Repeat("9", api.MaxBytes)
	a, _ := Parse(long)
	expect(t, "Mul", Mul(a, a), new(big.Int).Mul(bigOf(t, a), bigOf(t, a)))
}

// P1.4
func TestDivMod(t *testing.T) {
	for _, c := range [][4]int{{-7, 2, -4, 1}, {7, -2, -4, -1}, {7, 2, 3, 1}, {-7, -2, 3, -1}, {6, 3, 2, 0}, {-6, 3, -2, 0}, {0, 7, 0, 0}, {1, math.MinInt, -1, math.MinInt + 1}, {-1, math.MinInt, 0, -1}, {-1, math.MaxInt, -1, math.MaxInt - 1}} {
		q, r, e := DivMod(From(c[0]), From(c[1]))
		if e != api.OK || Compare(q, From(c[2])) != 0 || Compare(r, From(c[3])) != 0 {
			t.Errorf("DivMod(%d, %d) = %s, %s, %d", c[0], c[1], q.Text(), r.Text(), e)
		}
	}
	l := samples(120)
	for _, a := range l {
		for _, b := range l {
			q, r, e := DivMod(a, b)
			if b.Sign() == 0 {
				if e != api.ErrZero || q.Sign() != 0 || r.Sign() != 0 {
					t.Errorf("DivMod by 0 = %s, %s, %d", q.Text(), r.Text(), e)
				}
				continue
			}
			if e != api.OK || Compare(Add(Mul(q, b), r), a) != 0 || r.Sign() != 0 && r.Sign() != b.Sign() || Compare(Abs(r), Abs(b)) >= 0 {
				t.Fatalf("DivMod(%s, %s) = %s, %s, %d", a.Text(), b.Text(), q.Text(), r.Text(), e)
			}
			expect(t, "quotient", q, bigOf(t, q))
			expect(t, "rest", r, bigOf(t, r))
		}
	}
}

// The digits that are guessed first when long numbers are divided can be too great by one.
func TestDivModCorrectsGuesses(t *testing.T) {
	digits := []uint64{0, 1, 2, 1 << 63, 1<<63 - 1, 1<<64 - 1, 1<<64 - 2}
	r := rand.New(rand.NewSource(3))
	random := func(n int) Int {
		a := make(natural, n)
		for i := range a {
			a[i] = digits[r.Intn(len(digits))]
		}
		return signed(trim(a), false)
	}
	for range 20000 {
		a, b := random(1+r.Intn(6)), random(1+r.Intn(4))
		if b.Sign() == 0 {
			continue
		}
		q, rest, _ := DivMod(a, b)
		x, y := new(big.Int).DivMod(bigOf(t, a), bigOf(t, b), new(big.Int))
		if q.Text() != x.String() || rest.Text() != y.String() {
			t.Fatalf("DivMod(%s, %s) = %s, %s", a.Text(), b.Text(), q.Text(), rest.Text())
		}
	}
}

// P1.4
func TestGcd(t *testing.T) {
	for _, c := range [][3]int{{-12, 18, 6}, {0, 0, 0}, {0, -5, 5}, {7, 0, 7}, {1, 100, 1}, {-8, -12, 4}, {math.MinInt, 1 << 40, 1 << 40}} {
		if g := Gcd(From(c[0]), From(c[1])); Compare(g, From(c[2])) != 0 {
			t.Errorf("Gcd(%d, %d) = %s", c[0], c[1], g.Text())
		}
	}
	if g := Gcd(From(math.MinInt), From(0)); g.Text() != "9223372036854775808" {
		t.Errorf("Gcd of the least int and 0 = %s", g.Text())
	}
	l := samples(70)
	for i, a := range l {
		for _, b := range l {
			for _, k := range []Int{From(1), l[(i*7)%len(l)]} {
				x, y := Mul(a, k), Mul(b, k)
				expect(t, "Gcd", Gcd(x, y), new(big.Int).GCD(nil, nil, new(big.Int).Abs(bigOf(t, x)), new(big.Int).Abs(bigOf(t, y))))
			}
		}
	}
}

// Neighbouring numbers of Fibonacci need the most steps; their quotients are all 1.
func TestGcdOfFibonacciNumbers(t *testing.T) {
	a, b := From(1), From(1)
	for range 20000 {
		a, b = b, Add(a, b)
	}
	if g := Gcd(a, b); g.Text() != "1" {
		t.Errorf("Gcd = %.40s", g.Text())
	}
	if g := Gcd(Mul(a, a), Mul(a, b)); Compare(g, a) != 0 {
		t.Errorf("Gcd = %.40s", g.Text())
	}
}

// P1.4
func TestPower(t *testing.T) {
	for _, c := range []struct {
		a, n int
		text string
	}{{-10, 3, "-1000"}, {0, 0, "1"}, {0, 5, "0"}, {7, 0, "1"}, {7, 1, "7"}, {2, 63, "9223372036854775808"}, {2, 64, "18446744073709551616"}, {-1, 64, "1"}, {-2, 63, "-9223372036854775808"}, {3, 41, "36472996377170786403"}} {
		p, e := Power(From(c.a), c.n)
		if e != api.OK || p.Text() != c.text {
			t.Errorf("Power(%d, %d) = %s, %d", c.a, c.n, p.Text(), e)
		}
	}
	for _, n := range []int{-1, 65, math.MinInt, math.MaxInt} {
		if p, e := Power(From(3), n); e != api.ErrRange || p.Sign() != 0 {
			t.Errorf("Power(3, %d) = %s, %d", n, p.Text(), e)
		}
	}
}

// P1.5
func TestLaws(t *testing.T) {
	l := samples(30)
	for i, a := range l {
		b, c := l[(i*5+3)%len(l)], l[(i*11+7)%len(l)]
		if Compare(Add(Add(a, b), c), Add(a, Add(b, c))) != 0 || Compare(Mul(Mul(a, b), c), Mul(a, Mul(b, c))) != 0 || Compare(Mul(a, Add(b, c)), Add(Mul(a, b), Mul(a, c))) != 0 {
			t.Errorf("no ring: %s, %s, %s", a.Text(), b.Text(), c.Text())
		}
		if Compare(a, b) != Compare(Add(a, c), Add(b, c)) || c.Sign() > 0 && Compare(a, b) != Compare(Mul(a, c), Mul(b, c)) {
			t.Errorf("the order is not kept: %s, %s, %s", a.Text(), b.Text(), c.Text())
		}
		if g := Gcd(a, b); g.Sign() != 0 {
			x, r, _ := DivMod(a, g)
			y, s, _ := DivMod(b, g)
			if r.Sign() != 0 || s.Sign() != 0 || Gcd(x, y).Text() != "1" {
				t.Errorf("%s is not the greatest common divisor of %s, %s", g.Text(), a.Text(), b.Text())
			}
		}
		if p, e := Parse(a.Text()); e != api.OK || Compare(p, a) != 0 {
			t.Errorf("Parse(%s): %d", a.Text(), e)
		}
	}
}

// No call changes its arguments.
func TestArgumentsRemain(t *testing.T) {
	l := samples(40)
	var before []string
	for _, a := range l {
		before = append(before, a.Text())
	}
	for _, a := range l {
		for _, b := range l {
			Add(a, b)
			Sub(a, b)
			Mul(a, b)
			DivMod(a, b)
			Gcd(a, b)
		}
	}
	for i, a := range l {
		if a.Text() != before[i] {
			t.Errorf("%s has become %s", before[i], a.Text())
		}
	}
}

func BenchmarkGcdLong(b *testing.B) {
	x, _ := Parse(strings.Repeat("7", 30000))
	y, _ := Parse(strings.Repeat("123", 9000))
	for b.Loop() {
		Gcd(x, y)
	}
}

func BenchmarkMulSmall(b *testing.B) {
	x, y := From(1234), From(-77)
	for b.Loop() {
		Mul(x, y)
	}
}

func BenchmarkDivMod(b *testing.B) {
	x, _ := Parse(strings.Repeat("7", 100))
	y, _ := Parse(strings.Repeat("3", 60))
	for b.Loop() {
		DivMod(x, y)
	}
}
