package loop

import (
	"fmt"
	"math/rand"
	"slices"
	"strings"
	"testing"

	"dowel/api"
	"dowel/dimension"
	"dowel/rational"
)

// formed returns a form with a constant and terms, given as dimension and factor in turn.
func formed(constant string, terms ...any) api.Form {
	f := api.Form{Constant: api.Number(constant)}
	for i := 0; i < len(terms); i += 2 {
		f.Terms = append(f.Terms, api.Term{Dimension: terms[i].(int), Factor: api.Number(terms[i+1].(string))})
	}
	return f
}

// triangle is the network of the document.
func triangle() Network {
	return Network{3, 3, []Link{{0, 1, formed("0", 0, "1")}, {1, 2, formed("0", 1, "1")}, {0, 2, formed("0", 2, "1")}}}
}

// split has two parts with features in another order, a double link, and a feature alone.
func split() Network {
	return Network{7, 2, []Link{{4, 2, formed("1", 0, "1")}, {2, 4, formed("-3", 0, "-1")}, {6, 1, formed("5")}, {0, 2, formed("0", 1, "1/2")}, {1, 5, formed("2", 1, "-1")}, {4, 0, formed("0")}}}
}

func show(f api.Form) string { return fmt.Sprint(f) }

// P39.1
func TestCheck(t *testing.T) {
	many := make([]Link, MaxLinks+1)
	for i := range many {
		many[i] = Link{0, 1, formed("0")}
	}
	for i, c := range []struct {
		n    Network
		want api.Errno
	}{
		{triangle(), api.OK}, {split(), api.OK}, {Network{Features: 1}, api.OK}, {Network{Features: 32, Dimensions: 64}, api.OK}, {Network{Features: 0, Links: many}, api.ErrRange}, {Network{Features: 33}, api.ErrRange}, {Network{Features: 1, Dimensions: -1}, api.ErrRange}, {Network{Features: 1, Dimensions: 65, Links: many}, api.ErrRange}, {Network{2, 0, many}, api.ErrLimit}, {Network{2, 0, many[1:]}, api.OK},
		{Network{2, 0, []Link{{0, 2, formed("x")}}}, api.ErrRange}, {Network{2, 0, []Link{{-1, 1, formed("x")}}}, api.ErrRange}, {Network{2, 0, []Link{{2, 2, formed("x")}}}, api.ErrRange}, {Network{2, 0, []Link{{1, 1, formed("x")}}}, api.ErrConflict}, {Network{2, 0, []Link{{0, 1, formed("x")}, {1, 1, formed("0")}}}, api.ErrSyntax}, {Network{2, 1, []Link{{0, 1, formed("0", 1, "1")}}}, api.ErrRange}, {Network{2, 1, []Link{{0, 1, formed("0", 0, "0")}}}, api.ErrZero}, {Network{2, 2, []Link{{0, 1, formed("0", 1, "1", 1, "1")}}}, api.ErrOrder}, {Network{2, 1, []Link{{0, 1, api.Form{Constant: "0", Terms: make([]api.Term, 65)}}}}, api.ErrLimit},
	} {
		if e := Check(c.n); e != c.want {
			t.Errorf("%d: Check = %d, not %d", i, e, c.want)
		}
		if c.want == api.OK {
			continue
		}
		tree, e1 := Tree(c.n)
		parts, e2 := Parts(c.n)
		path, e3 := Path(c.n, 99, 99)
		gap, e4 := Gap(c.n, 99, 99)
		sum, e5 := Sum(c.n, make([]Step, 99))
		loops, e6 := Loops(c.n)
		constraints, e7 := Constraints(c.n)
		index, closed, e8 := Closed(c.n, make([]api.Number, 99))
		place, e9 := Place(c.n, make([]api.Number, 99))
		if tree != nil || parts != nil || path != nil || gap.Constant != "" || sum.Constant != "" || loops != nil || constraints != nil || index != 0 || closed || place != nil {
			t.Errorf("%d: results with an error", i)
		}
		for k, e := range []api.Errno{e1, e2, e3, e4, e5, e6, e7, e8, e9} {
			if e != c.want {
				t.Errorf("%d, %d: error %d, not %d", i, k, e, c.want)
			}
		}
	}
}

// P39.2
func TestTreeAndParts(t *testing.T) {
	for i, c := range []struct {
		n     Network
		tree  []int
		parts string
	}{
		{triangle(), []int{0, 1}, "[[0 1 2]]"}, {split(), []int{0, 2, 3, 4}, "[[0 2 4] [1 5 6] [3]]"}, {Network{Features: 2}, nil, "[[0] [1]]"},
	} {
		if l, e := Tree(c.n); !slices.Equal(l, c.tree) || e != api.OK {
			t.Errorf("%d: Tree = %v, %d", i, l, e)
		}
		if l, e := Parts(c.n); fmt.Sprint(l) != c.parts || e != api.OK {
			t.Errorf("%d: Parts = %v, %d", i, l, e)
		}
	}
}

// P39.3
func TestPathAndGap(t *testing.T) {
	for i, c := range []struct {
		n        Network
		from, to int
		path     string
		gap      api.Form
		e        api.Errno
	}{
		{triangle(), 0, 2, "[{0 true} {1 true}]", formed("0", 0, "1", 1, "1"), 0}, {triangle(), 2, 1, "[{1 false}]", formed("0", 1, "-1"), 0}, {triangle(), 1, 1, "[]", formed("0"), 0}, {split(), 0, 4, "[{3 true} {0 false}]", formed("-1", 0, "-1", 1, "1/2"), 0}, {split(), 5, 6, "[{4 false} {2 false}]", formed("-7", 1, "1"), 0}, {split(), 0, 1, "[]", api.Form{}, api.ErrNotFound}, {split(), 3, 2, "[]", api.Form{}, api.ErrNotFound}, {split(), 7, 0, "[]", api.Form{}, api.ErrRange}, {split(), 0, -1, "[]", api.Form{}, api.ErrRange},
	} {
		if l, e := Path(c.n, c.from, c.to); fmt.Sprint(l) != c.path || e != c.e {
			t.Errorf("%d: Path = %v, %d", i, l, e)
		}
		if f, e := Gap(c.n, c.from, c.to); show(f) != show(c.gap) || e != c.e {
			t.Errorf("%d: Gap = %v, %d", i, f, e)
		}
	}
}

// long returns a network whose links add up to numbers that are too long: in the constant or in a factor.
func long(inTerm bool) Network {
	nines := strings.Repeat("9", api.MaxNumber)
	length := formed(nines)
	if inTerm {
		length = formed("0", 0, nines)
	}
	return Network{3, 1, []Link{{0, 1, length}, {1, 2, length}, {2, 0, formed("0")}}}
}

// P39.3, P39.4, P39.5
func TestLongForms(t *testing.T) {
	for _, inTerm := range []bool{false, true} {
		n := long(inTerm)
		if l, e := Path(n, 0, 2); len(l) != 2 || e != api.OK {
			t.Errorf("Path = %v, %d", l, e)
		}
		gap, e1 := Gap(n, 0, 2)
		sum, e2 := Sum(n, []Step{{0, true}, {1, true}})
		loops, e3 := Loops(n)
		constraints, e4 := Constraints(n)
		if gap.Constant != "" || sum.Constant != "" || loops != nil || constraints != nil || e1 != api.ErrLong || e2 != api.ErrLong || e3 != api.ErrLong || e4 != api.ErrLong {
			t.Errorf("%d, %d, %d, %d", e1, e2, e3, e4)
		}
		if _, e := Gap(n, 0, 1); e != api.OK {
			t.Errorf("Gap: %d", e)
		}
		// Backward the sign makes it too long.
		if _, e := Gap(n, 1, 0); e != api.ErrLong {
			t.Errorf("Gap: %d", e)
		}
		// Values have no such limit.
		if index, closed, e := Closed(n, []api.Number{"1"}); index != 0 || closed || e != api.OK {
			t.Errorf("Closed = %d, %t, %d", index, closed, e)
		}
		n.Links = n.Links[:2]
		if l, e := Place(n, []api.Number{"1"}); len(l) != 3 || len(l[2]) != api.MaxNumber+1 || e != api.OK {
			t.Errorf("Place = %v, %d", l, e)
		}
	}
}

// P39.4
func TestSum(t *testing.T) {
	around := []Step{{2, true}, {1, false}, {0, false}}
	for i, c := range []struct {
		l    []Step
		want api.Form
		e    api.Errno
	}{
		{nil, formed("0"), 0}, {around, formed("0", 0, "-1", 1, "-1", 2, "1"), 0}, {append(around, around...), formed("0", 0, "-2", 1, "-2", 2, "2"), 0}, {[]Step{{0, true}, {0, false}}, formed("0"), 0}, {[]Step{{1, true}}, formed("0", 1, "1"), 0}, {make([]Step, 65), api.Form{}, api.ErrLimit}, {make([]Step, 64), api.Form{}, api.ErrOrder}, {[]Step{{3, true}}, api.Form{}, api.ErrRange}, {[]Step{{-1, true}}, api.Form{}, api.ErrRange}, {[]Step{{0, true}, {0, true}, {3, true}}, api.Form{}, api.ErrOrder}, {[]Step{{0, true}, {3, true}, {0, false}}, api.Form{}, api.ErrRange}, {[]Step{{0, true}, {2, false}}, api.Form{}, api.ErrOrder}, {[]Step{{0, true}, {1, true}, {2, false}}, formed("0", 0, "1", 1, "1", 2, "-1"), 0},
	} {
		if f, e := Sum(triangle(), c.l); show(f) != show(c.want) || e != c.e {
			t.Errorf("%d: Sum = %v, %d", i, f, e)
		}
	}
	var l []Step
	for range MaxLinks / 2 {
		l = append(l, Step{0, true}, Step{0, false})
	}
	if f, e := Sum(triangle(), l); show(f) != show(formed("0")) || e != api.OK {
		t.Errorf("Sum = %v, %d", f, e)
	}
	if f, e := Sum(triangle(), append(l, Step{0, true})); f.Constant != "" || e != api.ErrLimit {
		t.Errorf("Sum = %v, %d", f, e)
	}
}

// P39.5
func TestLoopsAndConstraints(t *testing.T) {
	for i, c := range []struct {
		n                  Network
		loops, constraints string
	}{
		{triangle(), "[{[{2 true} {1 false} {0 false}] {0 [{0 -1} {1 -1} {2 1}]}}]", "[{+2 {0 [{0 -1} {1 -1} {2 1}]}} {-2 {0 [{0 1} {1 1} {2 -1}]}}]"},
		{split(), "[{[{1 true} {0 true}] {-2 []}} {[{5 true} {3 true} {0 false}] {-1 [{0 -1} {1 1/2}]}}]", "[{+1 {-2 []}} {-1 {2 []}} {+5 {-1 [{0 -1} {1 1/2}]}} {-5 {1 [{0 1} {1 -1/2}]}}]"},
		{Network{Features: 3}, "[]", "[]"},
	} {
		if l, e := Loops(c.n); fmt.Sprint(l) != c.loops || e != api.OK {
			t.Errorf("%d: Loops = %v, %d", i, l, e)
		}
		if l, e := Constraints(c.n); fmt.Sprint(l) != c.constraints || e != api.OK {
			t.Errorf("%d: Constraints = %v, %d", i, l, e)
		}
	}
}

// P39.6
func TestClosedAndPlace(t *testing.T) {
	list := func(s string) []api.Number {
		var l []api.Number
		for _, n := range strings.Fields(s) {
			l = append(l, api.Number(n))
		}
		return l
	}
	open := Network{5, 1, []Link{{4, 3, formed("0", 0, "1")}, {3, 4, formed("-1")}, {3, 4, formed("-1/2")}, {2, 1, formed("7", 0, "-2")}}}
	for i, c := range []struct {
		n      Network
		values string
		index  int
		closed bool
		places string
		e      api.Errno
	}{
		{triangle(), "2 3 5", 0, true, "[0 2 5]", 0}, {triangle(), "2 3 6", 0, false, "[]", 0}, {triangle(), "1/2 1/3 5/6", 0, true, "[0 1/2 5/6]", 0}, {open, "1", 1, false, "[]", 0}, {open, "1/2", 0, false, "[]", 0}, {Network{5, 1, open.Links[:2]}, "1", 0, true, "[0 0 0 0 -1]", 0}, {Network{5, 1, open.Links[3:]}, "1", 0, true, "[0 0 -5 0 0]", 0}, {triangle(), "1 2", 0, false, "[]", api.ErrSize}, {triangle(), "x 2 3 4", 0, false, "[]", api.ErrSize}, {triangle(), "1 1/0 x", 0, false, "[]", api.ErrZero}, {triangle(), "2/4 3 6", 0, false, "[]", api.ErrForm}, {Network{Features: 1}, "", 0, true, "[0]", 0},
	} {
		index, closed, e := Closed(c.n, list(c.values))
		if index != c.index || closed != c.closed || e != c.e {
			t.Errorf("%d: Closed = %d, %t, %d", i, index, closed, e)
		}
		want := c.e
		if want == api.OK && !c.closed {
			want = api.ErrConflict
		}
		if l, e := Place(c.n, list(c.values)); fmt.Sprint(l) != c.places || e != want {
			t.Errorf("%d: Place = %v, %d", i, l, e)
		}
	}
}

func random(r *rand.Rand) Network {
	n := Network{Features: 2 + r.Intn(6), Dimensions: 3}
	for range r.Intn(10) {
		l := Link{From: r.Intn(n.Features), Length: formed(fmt.Sprint(r.Intn(5) - 2))}
		l.To = (l.From + 1 + r.Intn(n.Features-1)) % n.Features
		for d := range 3 {
			if k := r.Intn(5) - 2; k != 0 {
				l.Length.Terms = append(l.Length.Terms, api.Term{Dimension: d, Factor: api.Number(fmt.Sprint(k))})
			}
		}
		n.Links = append(n.Links, l)
	}
	return n
}

// chain returns some steps from a feature.
func chain(r *rand.Rand, n Network, from, steps int) ([]Step, int) {
	var l []Step
	for range steps {
		var next []Step
		for i, k := range n.Links {
			if k.From == from {
				next = append(next, Step{i, true})
			}
			if k.To == from {
				next = append(next, Step{i, false})
			}
		}
		if len(next) == 0 {
			break
		}
		s := next[r.Intn(len(next))]
		l, from = append(l, s), n.end(s)
	}
	return l, from
}

// P39.7
func TestConsequences(t *testing.T) {
	r := rand.New(rand.NewSource(1))
	for range 2000 {
		n := random(r)
		before := fmt.Sprint(n)
		tree, _ := Tree(n)
		loops, _ := Loops(n)
		parts, _ := Parts(n)
		if len(tree)+len(loops) != len(n.Links) || len(tree)+len(parts) != n.Features {
			t.Fatalf("%v has %d links in the forest, %d loops and %d parts", n, len(tree), len(loops), len(parts))
		}
		from := r.Intn(n.Features)
		first, middle := chain(r, n, from, r.Intn(5))
		second, to := chain(r, n, middle, r.Intn(5))
		a, _ := Sum(n, first)
		b, _ := Sum(n, second)
		both, e := Sum(n, append(slices.Clone(first), second...))
		if e != api.OK || show(both) != show(dimension.Add(a, b)) {
			t.Fatalf("Sum = %v, not %v and %v", both, a, b)
		}
		back := slices.Clone(first)
		slices.Reverse(back)
		for i := range back {
			back[i].Forward = !back[i].Forward
		}
		if c, e := Sum(n, back); e != api.OK || show(c) != show(dimension.Scale(a, rational.From(-1))) {
			t.Fatalf("the chain backward has the form %v, and forward %v", c, a)
		}
		checkPlaces(t, r, n, from, to, both)
		if fmt.Sprint(n) != before {
			t.Fatal("a network is changed")
		}
	}
}

// checkPlaces makes the constants of all loops fit, and looks at the places.
func checkPlaces(t *testing.T, r *rand.Rand, n Network, from, to int, distance api.Form) {
	values := []api.Number{"1", "-2", "3"}
	at, _ := rational.Reads(values)
	places := make([]int, n.Features)
	for i := range places {
		places[i] = r.Intn(9)
	}
	closed := Network{n.Features, n.Dimensions, slices.Clone(n.Links)}
	for i, l := range closed.Links {
		value, _ := dimension.Value(l.Length, at)
		length := rational.From(places[l.To] - places[l.From])
		constant, _ := rational.Parse(l.Length.Constant)
		closed.Links[i].Length.Constant = rational.Add(constant, rational.Sub(length, value)).Number()
	}
	index, ok, e := Closed(closed, values)
	l, f := Place(closed, values)
	if index != 0 || !ok || e != api.OK || f != api.OK {
		t.Fatalf("Closed = %d, %t, %d, Place: %d", index, ok, e, f)
	}
	parts, _ := Parts(n)
	for _, p := range parts {
		for _, feature := range p {
			if l[feature] != rational.From(places[feature]-places[p[0]]).Number() {
				t.Fatalf("Place = %v, not %v", l, places)
			}
		}
	}
	shuffled := Network{n.Features, n.Dimensions, slices.Clone(closed.Links)}
	r.Shuffle(len(shuffled.Links), func(i, j int) {
		shuffled.Links[i], shuffled.Links[j] = shuffled.Links[j], shuffled.Links[i]
	})
	again, _ := Place(shuffled, values)
	if !slices.Equal(again, l) {
		t.Fatalf("with other forests the places are %v, not %v", again, l)
	}
	gap, e := Gap(n, from, to)
	loops, _ := Loops(n)
	if e != api.OK || len(loops) == 0 && show(gap) != show(distance) {
		t.Fatalf("Gap = %v, %d, not %v", gap, e, distance)
	}
}

// Results share no memory with networks, nor with one another.
func TestMemory(t *testing.T) {
	n := triangle()
	loops, _ := Loops(n)
	constraints, _ := Constraints(n)
	constraints[0].Form.Terms[0].Dimension = 9
	constraints[1].Form.Terms[0].Dimension = 9
	loops[0].Form.Terms[0].Dimension = 9
	gap, _ := Gap(n, 0, 1)
	gap.Terms[0].Dimension = 9
	tree, _ := Tree(n)
	tree[0] = 9
	if fmt.Sprint(n) != fmt.Sprint(triangle()) {
		t.Error("a network is changed")
	}
}
