package interval

import (
	"math/rand"
	"slices"
	"strings"
	"testing"

	"dowel/api"
	"dowel/rational"
)

// read returns intervals as they are written: "[0,1) (2,~" has the ends closed, open, open and infinite.
func read(text string) []api.Interval {
	var l []api.Interval
	for _, word := range strings.Fields(text) {
		low, high, _ := strings.Cut(word, ",")
		x := api.Interval{LowEnd: api.Infinite, HighEnd: api.Infinite}
		switch low[0] {
		case '[':
			x.LowEnd, x.Low = api.Closed, api.Number(low[1:])
		case '(':
			x.LowEnd, x.Low = api.Open, api.Number(low[1:])
		}
		switch n := len(high) - 1; high[n] {
		case ']':
			x.HighEnd, x.High = api.Closed, api.Number(high[:n])
		case ')':
			x.HighEnd, x.High = api.Open, api.Number(high[:n])
		}
		l = append(l, x)
	}
	return l
}

func write(l []api.Interval) string {
	var words []string
	for _, x := range l {
		low, high := "~", "~"
		if x.LowEnd != api.Infinite {
			low = []string{"(", "["}[x.LowEnd] + string(x.Low)
		}
		if x.HighEnd != api.Infinite {
			high = string(x.High) + []string{")", "]"}[x.HighEnd]
		}
		words = append(words, low+","+high)
	}
	return strings.Join(words, " ")
}

// points returns the set of the numbers 0, 2, 4 and so on.
func points(count int) []api.Interval {
	var l []api.Interval
	for i := range count {
		n := rational.From(2 * i).Number()
		l = append(l, api.Interval{Low: n, High: n, LowEnd: api.Closed, HighEnd: api.Closed})
	}
	return l
}

// samples returns sets whose ends are small integers and halves.
func samples(t *testing.T, count int) [][]api.Interval {
	r := rand.New(rand.NewSource(1))
	number := func() api.Number {
		a, _ := rational.Div(rational.From(r.Intn(17)-8), rational.From(1+r.Intn(2)))
		return a.Number()
	}
	sets := [][]api.Interval{nil, All()}
	for len(sets) < count {
		var l []api.Interval
		for range r.Intn(6) {
			x := api.Interval{LowEnd: r.Intn(3), HighEnd: r.Intn(3)}
			if x.LowEnd != api.Infinite || r.Intn(3) > 0 {
				x.LowEnd, x.Low = r.Intn(2), number()
			}
			if x.HighEnd != api.Infinite || r.Intn(3) > 0 {
				x.HighEnd, x.High = r.Intn(2), number()
			}
			l = append(l, x)
		}
		s, e := Normal(l)
		if e != api.OK || Check(s) != api.OK {
			t.Fatalf("Normal of %s = %s, %d", write(l), write(s), e)
		}
		sets = append(sets, s)
	}
	return sets
}

// probes are numbers at all ends of the samples, and between them.
func probes() []api.Number {
	var l []api.Number
	for i := -40; i <= 40; i++ {
		a, _ := rational.Div(rational.From(i), rational.From(4))
		l = append(l, a.Number())
	}
	return l
}

func contains(t *testing.T, s []api.Interval, n api.Number) bool {
	t.Helper()
	is, e := Contains(s, n)
	if e != api.OK {
		t.Fatalf("Contains(%s, %s): %d", write(s), n, e)
	}
	return is
}

// P4.1
func TestCheck(t *testing.T) {
	infinite := api.Interval{LowEnd: api.Infinite, HighEnd: api.Infinite}
	for i, c := range []struct {
		l []api.Interval
		e api.Errno
	}{
		{nil, api.OK}, {read("[0,0]"), api.OK}, {read("(0,1)"), api.OK}, {read("(0,1) (1,2)"), api.OK}, {read("(0,1) (3/2,2] [5/2,~"), api.OK}, {read("~,0) (0,~"), api.OK}, {All(), api.OK}, {points(MaxIntervals), api.OK},
		{points(MaxIntervals + 1), api.ErrLimit},
		{[]api.Interval{{Low: "0", High: "1", LowEnd: 3, HighEnd: 1}}, api.ErrKind}, {[]api.Interval{{Low: "x", High: "1", LowEnd: 1, HighEnd: -1}}, api.ErrKind},
		{[]api.Interval{{Low: "0", High: "1", LowEnd: api.Infinite, HighEnd: 1}}, api.ErrForm}, {[]api.Interval{{Low: "0", High: "1", LowEnd: 1, HighEnd: api.Infinite}}, api.ErrForm},
		{[]api.Interval{{Low: "x", High: "2/4", LowEnd: 1, HighEnd: 1}}, api.ErrSyntax}, {[]api.Interval{{Low: "1", High: "2/4", LowEnd: 1, HighEnd: 1}}, api.ErrForm}, {[]api.Interval{{High: "1", HighEnd: 1}}, api.ErrSyntax}, {[]api.Interval{{Low: "1", High: "1/0", LowEnd: 1, HighEnd: 1}}, api.ErrZero}, {[]api.Interval{{Low: "1", High: api.Number(strings.Repeat("1", api.MaxBytes+1)), LowEnd: 1, HighEnd: 1}}, api.ErrLong},
		{read("[1,0]"), api.ErrEmpty}, {read("[1,1)"), api.ErrEmpty}, {read("(1,1]"), api.ErrEmpty}, {read("(1,1)"), api.ErrEmpty}, {read("[0,1] (1,1)"), api.ErrEmpty},
		{read("[0,1] [1,2]"), api.ErrOrder}, {read("[0,1) [1,2]"), api.ErrOrder}, {read("[0,1] (1,2]"), api.ErrOrder}, {read("[2,3] [0,1]"), api.ErrOrder}, {read("[0,~ [1,2]"), api.ErrOrder}, {read("[0,1] ~,2]"), api.ErrOrder}, {[]api.Interval{infinite, infinite}, api.ErrOrder}, {read("[0,1] [1/2,2]"), api.ErrOrder},
		{append(read("[0,1] [0,1]"), api.Interval{LowEnd: 9}), api.ErrOrder},
	} {
		if e := Check(c.l); e != c.e {
			t.Errorf("%d: Check: %d, not %d", i, e, c.e)
		}
	}
}

// P4.2
func TestNormalAllSingle(t *testing.T) {
	for _, c := range [][2]string{
		{"[2,3) (0,1] (1,2)", "(0,3)"}, {"(0,1) (1,2)", "(0,1) (1,2)"}, {"(0,1) (1,2) [1,1]", "(0,2)"}, {"", ""}, {"[1,0] (5,5]", ""}, {"[0,5] [1,2]", "[0,5]"}, {"[0,5] (0,5)", "[0,5]"}, {"(0,5) [0,1)", "[0,5)"}, {"~,0] (0,~", "~,~"}, {"[3,4] ~,1) [0,2]", "~,2] [3,4]"}, {"[1,2] [1,2] [1,2]", "[1,2]"}, {"[2,3] [0,1]", "[0,1] [2,3]"},
	} {
		s, e := Normal(read(c[0]))
		if e != api.OK || write(s) != c[1] {
			t.Errorf("Normal(%s) = %s, %d", c[0], write(s), e)
		}
	}
	for _, c := range []struct {
		l []api.Interval
		e api.Errno
	}{{points(MaxIntervals + 1), api.ErrLimit}, {points(MaxIntervals), api.OK}, {[]api.Interval{{Low: "x", LowEnd: 7}}, api.ErrKind}, {[]api.Interval{{Low: "0", LowEnd: api.Infinite}}, api.ErrForm}, {[]api.Interval{{Low: "0", High: "00"}}, api.ErrForm}, {[]api.Interval{{Low: "0", High: "-"}}, api.ErrSyntax}} {
		if s, e := Normal(c.l); e != c.e || e != api.OK && s != nil {
			t.Errorf("Normal: %d, not %d", e, c.e)
		}
	}
	if write(All()) != "~,~" || Check(All()) != api.OK {
		t.Error("All")
	}
	if s, e := Single("-7/2"); e != api.OK || write(s) != "[-7/2,-7/2]" {
		t.Errorf("Single = %s, %d", write(s), e)
	}
	if s, e := Single("2/4"); e != api.ErrForm || s != nil {
		t.Errorf("Single = %s, %d", write(s), e)
	}
}

// P4.3
func TestContains(t *testing.T) {
	s := read("~,-1) [0,1) (2,3] [5,5]")
	for n, want := range map[api.Number]bool{"-100": true, "-1": false, "-1/2": false, "0": true, "1/2": true, "1": false, "2": false, "5/2": true, "3": true, "4": false, "5": true, "6": false} {
		if contains(t, s, n) != want {
			t.Errorf("Contains %s", n)
		}
	}
	if is, e := Contains(read("[1,0]"), "x"); is || e != api.ErrEmpty {
		t.Errorf("Contains: %d", e)
	}
	if is, e := Contains(All(), "x"); is || e != api.ErrSyntax {
		t.Errorf("Contains: %d", e)
	}
}

// P4.3, P4.7
func TestCombinations(t *testing.T) {
	sets := samples(t, 40)
	for i, a := range sets {
		complement, e := Complement(a)
		if back, f := Complement(complement); e != api.OK || f != api.OK || !Equal(back, a) || Check(complement) != api.OK {
			t.Fatalf("Complement of %s = %s, %d, %d", write(a), write(complement), e, f)
		}
		b := sets[(i*7+3)%len(sets)]
		union, e1 := Union(a, b)
		both, e2 := Intersect(a, b)
		minus, e3 := Minus(a, b)
		if e1 != api.OK || e2 != api.OK || e3 != api.OK || Check(union) != api.OK || Check(both) != api.OK || Check(minus) != api.OK {
			t.Fatalf("%s and %s: %d, %d, %d", write(a), write(b), e1, e2, e3)
		}
		isSubset := true
		for _, n := range probes() {
			inA, inB := contains(t, a, n), contains(t, b, n)
			isSubset = isSubset && (inB || !inA)
			if contains(t, complement, n) == inA || contains(t, union, n) != (inA || inB) || contains(t, both, n) != (inA && inB) || contains(t, minus, n) != (inA && !inB) {
				t.Fatalf("%s and %s at %s", write(a), write(b), n)
			}
		}
		if is, e := Subset(a, b); e != api.OK || is && !isSubset || is != (len(minus) == 0) {
			t.Errorf("Subset(%s, %s) = %t, %d", write(a), write(b), is, e)
		}
		is, _ := Subset(a, b)
		back, _ := Subset(b, a)
		if Equal(a, b) != (is && back) {
			t.Errorf("Equal(%s, %s)", write(a), write(b))
		}
		notB, _ := Complement(b)
		notBoth, _ := Intersect(complement, notB)
		if notUnion, _ := Complement(union); !Equal(notBoth, notUnion) {
			t.Errorf("the complement of the union of %s and %s", write(a), write(b))
		}
	}
}

// P4.3
func TestCombinationErrors(t *testing.T) {
	bad, worse := read("[1,0]"), []api.Interval{{LowEnd: 5}}
	for i, f := range []func(a, b []api.Interval) ([]api.Interval, api.Errno){Union, Intersect, Minus} {
		if s, e := f(bad, worse); s != nil || e != api.ErrEmpty {
			t.Errorf("%d: %d", i, e)
		}
		if s, e := f(nil, worse); s != nil || e != api.ErrKind {
			t.Errorf("%d: %d", i, e)
		}
	}
	if s, e := Complement(bad); s != nil || e != api.ErrEmpty {
		t.Errorf("Complement: %d", e)
	}
	if is, e := Subset(nil, bad); is || e != api.ErrEmpty {
		t.Errorf("Subset: %d", e)
	}
	all := points(MaxIntervals)
	if s, e := Complement(all); s != nil || e != api.ErrLimit {
		t.Errorf("Complement of too many: %d", e)
	}
	if s, e := Complement(all[1:]); len(s) != MaxIntervals || e != api.OK {
		t.Errorf("Complement: %d, %d", len(s), e)
	}
	if s, e := Union(all, read("[-1,-1]")); s != nil || e != api.ErrLimit {
		t.Errorf("Union of too many: %d", e)
	}
	if s, e := Minus(All(), all); s != nil || e != api.ErrLimit {
		t.Errorf("Minus of too many: %d", e)
	}
	// Subset needs no set of what is left.
	if is, e := Subset(All(), all); is || e != api.OK {
		t.Errorf("Subset: %t, %d", is, e)
	}
	if Equal(read("[0,1]"), read("[0,1)")) || Equal(read("[0,1]"), nil) || !Equal(nil, []api.Interval{}) || !Equal(bad, bad) {
		t.Error("Equal")
	}
}

// P4.4
func TestEndsAndNext(t *testing.T) {
	s := read("~,-1) [0,0] (2,3) (3,5) [11/2,~")
	ends, e := Ends(s)
	if e != api.OK || !slices.Equal(ends, []api.Number{"-1", "0", "2", "3", "5", "11/2"}) {
		t.Errorf("Ends = %s, %d", ends, e)
	}
	for n, want := range map[api.Number]api.Number{"-7": "-1", "-1": "0", "0": "2", "5/2": "3", "3": "5", "5": "11/2"} {
		if got, ok, e := Next(s, n); got != want || !ok || e != api.OK {
			t.Errorf("Next(%s) = %s, %t, %d", n, got, ok, e)
		}
	}
	if got, ok, e := Next(s, "11/2"); got != "0" || ok || e != api.OK {
		t.Errorf("Next = %s, %t, %d", got, ok, e)
	}
	if got, ok, e := Next(s, "1/0"); got != "" || ok || e != api.ErrZero {
		t.Errorf("Next = %s, %t, %d", got, ok, e)
	}
	if got, ok, e := Next(read("[1,0]"), "x"); got != "" || ok || e != api.ErrEmpty {
		t.Errorf("Next = %s, %t, %d", got, ok, e)
	}
	if l, e := Ends(read("[1,0]")); l != nil || e != api.ErrEmpty {
		t.Errorf("Ends: %d", e)
	}
	if l, e := Ends(All()); len(l) != 0 || e != api.OK {
		t.Errorf("Ends: %d", e)
	}
}

// P4.5
func TestPick(t *testing.T) {
	for _, c := range []struct {
		text string
		n    api.Number
	}{{"~,~", "0"}, {"[2,3)", "2"}, {"[2,3]", "2"}, {"[2,~", "2"}, {"(2,3]", "3"}, {"~,3]", "3"}, {"(5,~", "6"}, {"~,-1/2)", "-3/2"}, {"(1,2)", "3/2"}, {"(1,2) [3,3]", "3/2"}, {"[7,7]", "7"}} {
		n, ok, e := Pick(read(c.text))
		if n != c.n || !ok || e != api.OK || !contains(t, read(c.text), n) {
			t.Errorf("Pick(%s) = %s, %t, %d", c.text, n, ok, e)
		}
	}
	if n, ok, e := Pick(nil); n != "0" || ok || e != api.OK {
		t.Errorf("Pick of nothing = %s, %t, %d", n, ok, e)
	}
	if n, ok, e := Pick(read("(1,1)")); n != "" || ok || e != api.ErrEmpty {
		t.Errorf("Pick = %s, %t, %d", n, ok, e)
	}
}

// P4.6
func TestMap(t *testing.T) {
	for _, c := range [][4]string{{"(1,2]", "-2", "1", "[-3,-1)"}, {"(1,2] [3,~", "1/2", "-1", "(-1/2,0] [1/2,~"}, {"~,0) (0,1]", "-1", "0", "[-1,0) (0,~"}, {"", "5", "5", ""}, {"~,~", "-3", "2", "~,~"}} {
		s, e := Map(read(c[0]), api.Number(c[1]), api.Number(c[2]))
		if e != api.OK || write(s) != c[3] {
			t.Errorf("Map(%s, %s, %s) = %s, %d", c[0], c[1], c[2], write(s), e)
		}
	}
	for _, c := range []struct {
		text          string
		factor, shift api.Number
		e             api.Errno
	}{{"[1,0]", "x", "x", api.ErrEmpty}, {"[0,1]", "2/4", "x", api.ErrForm}, {"[0,1]", "0", "x", api.ErrSyntax}, {"[0,1]", "0", "1", api.ErrZero}, {"", "0", "1", api.ErrZero}} {
		if s, e := Map(read(c.text), c.factor, c.shift); s != nil || e != c.e {
			t.Errorf("Map(%s, %s, %s): %d", c.text, c.factor, c.shift, e)
		}
	}
}

// P4.6
func TestLength(t *testing.T) {
	for text, want := range map[string]api.Number{"": "0", "[1,1]": "0", "(1,3/2) (3/2,7]": "6", "[-1,1] [3,10/3]": "7/3"} {
		if n, e := Length(read(text)); n != want || e != api.OK {
			t.Errorf("Length(%s) = %s, %d", text, n, e)
		}
	}
	for text, want := range map[string]api.Errno{"~,0]": api.ErrUnbounded, "[0,1] (2,~": api.ErrUnbounded, "~,~": api.ErrUnbounded, "[1,0]": api.ErrEmpty} {
		if n, e := Length(read(text)); n != "" || e != want {
			t.Errorf("Length(%s) = %s, %d", text, n, e)
		}
	}
}

// P4.7
func TestConsequences(t *testing.T) {
	sets := samples(t, 40)
	for i, a := range sets {
		b := sets[(i*11+5)%len(sets)]
		there, e1 := Map(a, "-3/2", "7")
		back, e2 := Map(there, "-2/3", "14/3")
		if e1 != api.OK || e2 != api.OK || !Equal(back, a) {
			t.Errorf("Map of %s cannot be undone: %s, %s", write(a), write(there), write(back))
		}
		union, _ := Union(a, b)
		both, _ := Intersect(a, b)
		mappedB, _ := Map(b, "-3/2", "7")
		mapped, _ := Map(union, "-3/2", "7")
		if joined, _ := Union(there, mappedB); !Equal(joined, mapped) {
			t.Errorf("Map does not keep the union of %s and %s", write(a), write(b))
		}
		x, e1 := Length(a)
		y, e2 := Length(b)
		if e1 != api.OK || e2 != api.OK {
			continue
		}
		u, _ := Length(union)
		v, _ := Length(both)
		l, _ := rational.Reads([]api.Number{x, y, u, v})
		if rational.Compare(rational.Add(l[0], l[1]), rational.Add(l[2], l[3])) != 0 {
			t.Errorf("the lengths of %s and %s", write(a), write(b))
		}
		if n, _ := Length(there); n != rational.Mul(l[0], three(t)).Number() {
			t.Errorf("the length of %s is %s", write(there), n)
		}
	}
}

func three(t *testing.T) rational.Rat {
	a, e := rational.Read("3/2")
	if e != api.OK {
		t.Fatal(e)
	}
	return a
}

func TestArgumentsRemain(t *testing.T) {
	a, b := read("(1,2) [3,4]"), read("[0,7]")
	l := read("[3,4] (1,2) [3,4]")
	s, _ := Normal(l)
	s[0].Low = "9"
	u, _ := Union(a, b)
	u[0].Low = "9"
	Complement(a)
	Map(a, "-1", "0")
	if write(a) != "(1,2) [3,4]" || write(b) != "[0,7]" || write(l) != "[3,4] (1,2) [3,4]" {
		t.Error("an argument has changed")
	}
}
