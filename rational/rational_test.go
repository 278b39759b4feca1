package rational

import (
	"math"
	"math/big"
	"math/rand"
	"strings"
	"testing"

	"dowel/api"
	"dowel/integer"
)

func read(t *testing.T, n api.Number) Rat {
	t.Helper()
	a, e := Read(n)
	if e != api.OK {
		t.Fatalf("Read(%.40q): %d", n, e)
	}
	return a
}

func ofBig(t *testing.T, x *big.Rat) Rat {
	t.Helper()
	return read(t, api.Number(strings.TrimSuffix(x.String(), "/1")))
}

// samples returns rationals with short and long numbers, at the bounds of both, and the same ones of package big.
func samples(t *testing.T, count int) ([]Rat, []*big.Rat) {
	r := rand.New(rand.NewSource(1))
	number := func() *big.Int {
		n := new(big.Int).Rand(r, new(big.Int).Lsh(big.NewInt(1), uint(1+r.Intn([]int{4, 12, 31, 32, 33, 63, 64, 65, 200}[r.Intn(9)]))))
		if r.Intn(4) == 0 {
			n.Sub(new(big.Int).Lsh(big.NewInt(1), uint([]int{31, 32, 62, 63, 64}[r.Intn(5)])), big.NewInt(int64(r.Intn(3))))
		}
		return n
	}
	xs := []*big.Rat{new(big.Rat), big.NewRat(1, 1), big.NewRat(-1, 1), big.NewRat(math.MaxInt, 1), big.NewRat(math.MinInt, 1), big.NewRat(1, math.MaxInt), big.NewRat(math.MinInt, 3)}
	for len(xs) < count {
		num, den := number(), number()
		if r.Intn(3) == 0 {
			den.SetInt64(1)
		}
		if den.Sign() == 0 {
			continue
		}
		if r.Intn(2) == 0 {
			num.Neg(num)
		}
		xs = append(xs, new(big.Rat).SetFrac(num, den))
	}
	var l []Rat
	for _, x := range xs {
		l = append(l, ofBig(t, x))
	}
	return l, xs
}

func expect(t *testing.T, what string, a Rat, x *big.Rat) {
	t.Helper()
	if want := strings.TrimSuffix(x.String(), "/1"); string(a.Number()) != want {
		t.Fatalf("%s = %s, not %s", what, a.Number(), want)
	}
	if a.Num().Text() != x.Num().String() || a.Den().Text() != x.Denom().String() {
		t.Fatalf("%s has the parts %s and %s", what, a.Num().Text(), a.Den().Text())
	}
}

// P2.1
func TestFromAndMake(t *testing.T) {
	for _, n := range []int{0, 1, -1, math.MaxInt, math.MinInt} {
		expect(t, "From", From(n), new(big.Rat).SetInt64(int64(n)))
	}
	for _, c := range []struct {
		num, den int
		n        api.Number
		e        api.Errno
	}{
		{6, -4, "-3/2", api.OK}, {-6, -4, "3/2", api.OK}, {0, -7, "0", api.OK}, {12, 4, "3", api.OK}, {-12, 4, "-3", api.OK}, {5, 7, "5/7", api.OK},
		{math.MinInt, math.MinInt, "1", api.OK}, {1, math.MinInt, "-1/9223372036854775808", api.OK}, {1, 0, "0", api.ErrZero}, {0, 0, "0", api.ErrZero},
	} {
		a, e := Make(integer.From(c.num), integer.From(c.den))
		if a.Number() != c.n || e != c.e {
			t.Errorf("Make(%d, %d) = %s, %d", c.num, c.den, a.Number(), e)
		}
	}
}

// P2.2
func TestParseAndRead(t *testing.T) {
	long := api.Number(strings.Repeat("9", api.MaxNumber))
	longest := api.Number(strings.Repeat("9", api.MaxBytes))
	for _, c := range []struct {
		n           api.Number
		parse, read api.Errno
	}{
		{"0", api.OK, api.OK}, {"-3", api.OK, api.OK}, {"5/7", api.OK, api.OK}, {"-5/7", api.OK, api.OK}, {"1/10", api.OK, api.OK}, {"10/9", api.OK, api.OK},
		{long, api.OK, api.OK}, {long + "9", api.ErrLong, api.OK}, {longest, api.ErrLong, api.OK}, {longest + "9", api.ErrLong, api.ErrLong}, {longest + "x", api.ErrLong, api.ErrLong}, {long[:398] + "/2", api.OK, api.OK}, {long[:399] + "/2", api.ErrLong, api.OK},
		{"", api.ErrSyntax, api.ErrSyntax}, {"-", api.ErrSyntax, api.ErrSyntax}, {"/", api.ErrSyntax, api.ErrSyntax}, {"1/", api.ErrSyntax, api.ErrSyntax}, {"/2", api.ErrSyntax, api.ErrSyntax}, {"-/2", api.ErrSyntax, api.ErrSyntax}, {"+1", api.ErrSyntax, api.ErrSyntax}, {"1/-2", api.ErrSyntax, api.ErrSyntax}, {"1/+2", api.ErrSyntax, api.ErrSyntax}, {"1/2/3", api.ErrSyntax, api.ErrSyntax}, {"--1", api.ErrSyntax, api.ErrSyntax}, {" 1", api.ErrSyntax, api.ErrSyntax}, {"1 /2", api.ErrSyntax, api.ErrSyntax}, {"0.5", api.ErrSyntax, api.ErrSyntax}, {"1/0x", api.ErrSyntax, api.ErrSyntax},
		{"1/0", api.ErrZero, api.ErrZero}, {"01/000", api.ErrZero, api.ErrZero}, {"-0/0", api.ErrZero, api.ErrZero},
		{"03", api.ErrForm, api.ErrForm}, {"-0", api.ErrForm, api.ErrForm}, {"00", api.ErrForm, api.ErrForm}, {"3/1", api.ErrForm, api.ErrForm}, {"2/4", api.ErrForm, api.ErrForm}, {"0/5", api.ErrForm, api.ErrForm}, {"-0/5", api.ErrForm, api.ErrForm}, {"1/02", api.ErrForm, api.ErrForm}, {"01/2", api.ErrForm, api.ErrForm}, {"6/-3", api.ErrSyntax, api.ErrSyntax},
	} {
		for i, f := range []func(api.Number) (Rat, api.Errno){Parse, Read} {
			a, e := f(c.n)
			if e != []api.Errno{c.parse, c.read}[i] || e == api.OK && a.Number() != c.n || e != api.OK && a.Number() != "0" {
				t.Errorf("%d: %.40q: %.40s, %d", i, c.n, a.Number(), e)
			}
		}
	}
}

// P2.2
func TestParsesAndReads(t *testing.T) {
	long := api.Number(strings.Repeat("9", api.MaxNumber+1))
	for _, c := range []struct {
		l           []api.Number
		parse, read api.Errno
	}{
		{nil, api.OK, api.OK}, {[]api.Number{"1", "2/3"}, api.OK, api.OK}, {[]api.Number{"1", "2/4", "x"}, api.ErrForm, api.ErrForm}, {[]api.Number{"x", "2/4"}, api.ErrSyntax, api.ErrSyntax}, {[]api.Number{"5", long, "1/0"}, api.ErrLong, api.ErrZero}, {[]api.Number{long}, api.ErrLong, api.OK},
	} {
		for i, f := range []func([]api.Number) ([]Rat, api.Errno){Parses, Reads} {
			l, e := f(c.l)
			if e != []api.Errno{c.parse, c.read}[i] || e != api.OK && len(l) != 0 || e == api.OK && len(l) != len(c.l) {
				t.Errorf("%d: %.60q: %d numbers, %d", i, c.l, len(l), e)
			}
			for k := range l {
				if l[k].Number() != c.l[k] {
					t.Errorf("%d: %s, not %s", i, l[k].Number(), c.l[k])
				}
			}
		}
	}
}

// P2.3
func TestParts(t *testing.T) {
	l, xs := samples(t, 60)
	texts := Numbers(l)
	for i, a := range l {
		expect(t, "a", a, xs[i])
		if string(texts[i]) != strings.TrimSuffix(xs[i].String(), "/1") {
			t.Errorf("Numbers: %s, not %s", texts[i], xs[i])
		}
		n, ok := a.Int()
		if is := xs[i].IsInt() && xs[i].Num().IsInt64(); ok != is || is && int64(n) != xs[i].Num().Int64() || !is && n != 0 {
			t.Errorf("Int of %s = %d, %t", xs[i], n, ok)
		}
		if a.Sign() != xs[i].Sign() {
			t.Errorf("Sign of %s = %d", xs[i], a.Sign())
		}
	}
	if len(Numbers(nil)) != 0 {
		t.Error("Numbers of nothing")
	}
	var zero Rat
	if zero.Number() != "0" || zero.Den().Text() != "1" || zero.Num().Text() != "0" {
		t.Error("the zero value is not 0")
	}
}

// P2.4, P2.5
func TestOrderAndCalculation(t *testing.T) {
	l, xs := samples(t, 90)
	for i, a := range l {
		x := xs[i]
		expect(t, "Neg", Neg(a), new(big.Rat).Neg(x))
		expect(t, "Abs", Abs(a), new(big.Rat).Abs(x))
		for k, b := range l {
			y := xs[k]
			c := x.Cmp(y)
			if got := Compare(a, b); got != c {
				t.Fatalf("Compare(%s, %s) = %d", x, y, got)
			}
			least, most := x, y
			if c > 0 {
				least, most = y, x
			}
			expect(t, "Min", Min(a, b), least)
			expect(t, "Max", Max(a, b), most)
			expect(t, "Add", Add(a, b), new(big.Rat).Add(x, y))
			expect(t, "Sub", Sub(a, b), new(big.Rat).Sub(x, y))
			expect(t, "Mul", Mul(a, b), new(big.Rat).Mul(x, y))
			q, e := Div(a, b)
			if y.Sign() == 0 {
				if e != api.ErrZero || q.Sign() != 0 {
					t.Errorf("Div by 0 = %s, %d", q.Number(), e)
				}
			} else if expect(t, "Div", q, new(big.Rat).Quo(x, y)); e != api.OK {
				t.Errorf("Div: %d", e)
			}
		}
	}
}

// P2.5
func TestSum(t *testing.T) {
	if Sum().Number() != "0" || Sum(From(3)).Number() != "3" || Sum(read(t, "1/2"), read(t, "1/3"), read(t, "1/6"), From(-1)).Number() != "0" {
		t.Error("Sum")
	}
}

// P2.6
func TestFloorAndCeil(t *testing.T) {
	for _, c := range [][3]api.Number{{"-3/2", "-2", "-1"}, {"3/2", "1", "2"}, {"0", "0", "0"}, {"-4", "-4", "-4"}, {"7", "7", "7"}, {"1/100", "0", "1"}, {"-1/100", "-1", "0"}, {"99999999999999999999/2", "49999999999999999999", "50000000000000000000"}} {
		a := read(t, c[0])
		if f, g := Floor(a).Text(), Ceil(a).Text(); f != string(c[1]) || g != string(c[2]) {
			t.Errorf("%s: Floor %s, Ceil %s", c[0], f, g)
		}
	}
}

// P2.6
func TestSimplest(t *testing.T) {
	for _, c := range [][3]api.Number{
		{"3/10", "2/5", "1/3"}, {"-7/2", "-9/4", "-3"}, {"-1/2", "5", "0"}, {"0", "3", "0"}, {"-3", "0", "0"}, {"19/10", "31/10", "2"}, {"-31/10", "-19/10", "-2"}, {"5/7", "5/7", "5/7"}, {"-5/7", "-5/7", "-5/7"}, {"4", "4", "4"}, {"5/2", "3", "3"}, {"2", "5/2", "2"}, {"333/106", "355/113", "333/106"}, {"314/100", "315/100", "22/7"}, {"-315/100", "-314/100", "-22/7"},
	} {
		for i := range c {
			x, _ := new(big.Rat).SetString(string(c[i]))
			c[i] = ofBig(t, x).Number()
		}
		if a, e := Simplest(read(t, c[0]), read(t, c[1])); e != api.OK || a.Number() != c[2] {
			t.Errorf("Simplest(%s, %s) = %s, %d", c[0], c[1], a.Number(), e)
		}
	}
	if a, e := Simplest(From(2), From(1)); e != api.ErrOrder || a.Sign() != 0 {
		t.Errorf("Simplest(2, 1) = %s, %d", a.Number(), e)
	}
}

// The simplest rational is found by trying denominators.
func TestSimplestAgainstSearch(t *testing.T) {
	r := rand.New(rand.NewSource(4))
	for range 3000 {
		x, y := big.NewRat(int64(r.Intn(400)-200), int64(1+r.Intn(60))), big.NewRat(int64(r.Intn(400)-200), int64(1+r.Intn(60)))
		if x.Cmp(y) > 0 {
			x, y = y, x
		}
		a, e := Simplest(ofBig(t, x), ofBig(t, y))
		if want := search(t, ofBig(t, x), ofBig(t, y)); e != api.OK || Compare(a, want) != 0 {
			t.Fatalf("Simplest(%s, %s) = %s, not %s", x, y, a.Number(), want.Number())
		}
	}
}

func search(t *testing.T, a, b Rat) Rat {
	for den := 1; ; den++ {
		low := Ceil(Mul(a, From(den)))
		high := Floor(Mul(b, From(den)))
		if integer.Compare(low, high) > 0 {
			continue
		}
		switch {
		case low.Sign() > 0:
			high = low
		case high.Sign() < 0:
			low = high
		default:
			return Rat{}
		}
		x, e := Make(low, integer.From(den))
		if e != api.OK {
			t.Fatal(e)
		}
		return x
	}
}

// The recursion goes as deep as the continued fraction is long.
func TestSimplestOfLongNumbers(t *testing.T) {
	a, b := integer.From(1), integer.From(1)
	for range 20000 {
		a, b = b, integer.Add(a, b)
	}
	x, _ := Make(b, a)
	y, _ := Make(integer.Add(a, b), b)
	s, e := Simplest(Min(x, y), Max(x, y))
	if e != api.OK || Compare(s, Min(x, y)) < 0 || Compare(s, Max(x, y)) > 0 || Compare(s, x) != 0 {
		t.Errorf("Simplest of quotients of numbers of Fibonacci: %d", e)
	}
	if s, e := Simplest(x, x); e != api.OK || Compare(s, x) != 0 {
		t.Errorf("Simplest of one number: %d", e)
	}
}

// P2.7
func TestField(t *testing.T) {
	l, _ := samples(t, 40)
	for i, a := range l {
		b, c := l[(i*7+1)%len(l)], l[(i*3+5)%len(l)]
		if Compare(Add(Add(a, b), c), Add(a, Add(b, c))) != 0 || Compare(Mul(Mul(a, b), c), Mul(a, Mul(b, c))) != 0 || Compare(Mul(a, Add(b, c)), Add(Mul(a, b), Mul(a, c))) != 0 {
			t.Errorf("no field: %s, %s, %s", a.Number(), b.Number(), c.Number())
		}
		if Compare(Add(a, c), Add(b, c)) != Compare(a, b) || c.Sign() > 0 && Compare(Mul(a, c), Mul(b, c)) != Compare(a, b) {
			t.Errorf("the order is not kept: %s, %s, %s", a.Number(), b.Number(), c.Number())
		}
		if q, e := Div(a, b); e == api.OK && Compare(Mul(q, b), a) != 0 {
			t.Errorf("%s / %s = %s", a.Number(), b.Number(), q.Number())
		}
		if back := read(t, a.Number()); Compare(back, a) != 0 {
			t.Errorf("Read(%s) = %s", a.Number(), back.Number())
		}
		floor, _ := Make(Floor(a), integer.From(1))
		if Compare(floor, a) > 0 || Compare(a, Add(floor, From(1))) >= 0 {
			t.Errorf("Floor of %s = %s", a.Number(), floor.Number())
		}
	}
}

func TestArgumentsRemain(t *testing.T) {
	texts := []api.Number{"1", "-2/3", "5"}
	l, _ := Parses(texts)
	Numbers(l)[0] = "7"
	if texts[0] != "1" || l[0].Number() != "1" {
		t.Error("an argument has changed")
	}
}

func BenchmarkAddFractions(b *testing.B) {
	x, _ := Read("17/65")
	y, _ := Read("-5/13")
	for b.Loop() {
		Add(x, y)
	}
}

func BenchmarkMulFractions(b *testing.B) {
	x, _ := Read("17/65")
	y, _ := Read("-5/13")
	for b.Loop() {
		Mul(x, y)
	}
}

func BenchmarkAddIntegers(b *testing.B) {
	x, y := From(1234), From(-17)
	for b.Loop() {
		Add(x, y)
	}
}
