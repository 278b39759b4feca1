package datum

import (
	"fmt"
	"math/rand"
	"slices"
	"strings"
	"testing"

	"dowel/api"
	"dowel/dimension"
	"dowel/rational"
)

// drilled is a surface with a slot that has a bonus, as in the document.
func drilled() Scheme {
	return Scheme{
		Features: []Feature{{Name: "a", Kind: Surface, Datum: -1}, {Name: "h", Kind: Slot, Datum: 0, At: 10000, Wide: 2000}},
		Zones:    []Zone{{Kind: Size, Feature: 1, Lower: 0, Upper: 20}, {Kind: Position, Feature: 1, Lower: -50, Upper: 50, Bonus: true}},
	}
}

// block has a chain of three features, a form, a slot without zones, and a feature across another axis.
func block() Scheme {
	return Scheme{
		Features: []Feature{{Name: "base", Kind: Surface, Datum: -1, At: 5}, {Name: "rib", Kind: Slot, Datum: 0, At: -100, Wide: 31}, {Name: "top", Kind: Surface, Datum: 1, At: 40}, {Name: "side", Kind: Slot, Axis: 2, Datum: -1, Wide: 8}},
		Zones:    []Zone{{Kind: Form, Feature: 2, Lower: -1, Upper: 2}, {Kind: Position, Feature: 2, Lower: -7, Upper: -3}, {Kind: Form, Feature: 0, Lower: 0, Upper: 4}, {Kind: Size, Feature: 3, Lower: -2, Upper: 5}, {Kind: Position, Feature: 3, Lower: -4, Upper: 6, Bonus: true}, {Kind: Position, Feature: 1, Lower: -1, Upper: 1, Bonus: true}},
	}
}

// P38.1
func TestCheck(t *testing.T) {
	const most = api.MaxLength / 4
	for i, s := range []Scheme{{}, drilled(), block()} {
		if e := Check(s); e != api.OK {
			t.Errorf("%d: Check = %d", i, e)
		}
	}
	for i, c := range []struct {
		change func(s *Scheme)
		want   api.Errno
	}{
		{func(s *Scheme) { s.Features = make([]Feature, MaxFeatures+1) }, api.ErrLimit}, {func(s *Scheme) { s.Zones = make([]Zone, MaxZones+1) }, api.ErrLimit}, {func(s *Scheme) { s.Zones, s.Features = make([]Zone, MaxZones+1), make([]Feature, 1) }, api.ErrLimit}, {func(s *Scheme) { s.Features[1].Datum, s.Zones[0].Kind = 7, 7 }, api.ErrRange},
		{func(s *Scheme) { s.Features[0].Name = "" }, api.ErrName}, {func(s *Scheme) { s.Features[0].Name = "a b" }, api.ErrName}, {func(s *Scheme) { s.Features[0].Name = "a.b" }, api.ErrName}, {func(s *Scheme) { s.Features[0].Name = strings.Repeat("x", 31) }, api.ErrName}, {func(s *Scheme) { s.Features[0].Name = strings.Repeat("x", 30) }, api.OK}, {func(s *Scheme) { s.Features[1].Name, s.Features[1].Kind = "base", 7 }, api.ErrDuplicate}, {func(s *Scheme) { s.Features[1].Kind, s.Features[1].Axis = 0, 3 }, api.ErrKind}, {func(s *Scheme) { s.Features[1].Kind = 3 }, api.ErrKind},
		{func(s *Scheme) { s.Features[1].Axis = -1 }, api.ErrRange}, {func(s *Scheme) { s.Features[1].Axis = 3 }, api.ErrRange}, {func(s *Scheme) { s.Features[1].Datum = -2 }, api.ErrRange}, {func(s *Scheme) { s.Features[1].Datum = 1 }, api.ErrRange}, {func(s *Scheme) { s.Features[0].Datum = 0 }, api.ErrRange}, {func(s *Scheme) { s.Features[1].Axis, s.Features[1].At = 1, most+1 }, api.ErrConflict}, {func(s *Scheme) { s.Features[1].At = most + 1 }, api.ErrRange}, {func(s *Scheme) { s.Features[1].At = -most - 1 }, api.ErrRange}, {func(s *Scheme) { s.Features[1].Wide = most + 1 }, api.ErrRange}, {func(s *Scheme) { s.Features[0].Wide = -most - 1 }, api.ErrRange}, {func(s *Scheme) { s.Features[1].At, s.Features[1].Wide = -most, most }, api.OK}, {func(s *Scheme) { s.Features[1].Wide = 0 }, api.ErrRange}, {func(s *Scheme) { s.Features[1].Wide = 1 }, api.OK}, {func(s *Scheme) { s.Features[0].Wide = 1 }, api.ErrForm},
		{func(s *Scheme) { s.Zones[0].Kind, s.Zones[0].Feature = 0, 9 }, api.ErrKind}, {func(s *Scheme) { s.Zones[0].Kind = 4 }, api.ErrKind}, {func(s *Scheme) { s.Zones[0].Feature = -1 }, api.ErrNotFound}, {func(s *Scheme) { s.Zones[0].Feature, s.Zones[0].Bonus = 4, true }, api.ErrNotFound}, {func(s *Scheme) { s.Zones[0].Kind, s.Zones[0].Lower = Size, most+1 }, api.ErrForm}, {func(s *Scheme) { s.Zones[0].Feature = 1 }, api.ErrForm}, {func(s *Scheme) { s.Zones[0].Bonus = true }, api.ErrForm}, {func(s *Scheme) { s.Zones[1].Bonus = true }, api.ErrForm}, {func(s *Scheme) { s.Zones[3].Bonus = true }, api.ErrForm},
		{func(s *Scheme) { s.Zones[0].Lower = most + 1 }, api.ErrRange}, {func(s *Scheme) { s.Zones[0].Upper = -most - 1 }, api.ErrRange}, {func(s *Scheme) { s.Zones[0].Lower, s.Zones[0].Upper = -most, most }, api.OK}, {func(s *Scheme) { s.Zones[0].Lower = 3 }, api.ErrOrder}, {func(s *Scheme) { s.Zones = append(s.Zones, Zone{Position, 2, 1, 0, false}) }, api.ErrOrder}, {func(s *Scheme) { s.Zones = append(s.Zones, Zone{Position, 2, 0, 0, false}) }, api.ErrDuplicate}, {func(s *Scheme) { s.Zones = append(s.Zones, Zone{Position, 0, 0, 0, false}) }, api.OK},
	} {
		s := block()
		c.change(&s)
		if e := Check(s); e != c.want {
			t.Errorf("%d: Check = %d, not %d", i, e, c.want)
		}
		if c.want == api.OK {
			continue
		}
		variables, e1 := Variables(s)
		constraints, e2 := Constraints(s)
		_, _, e3 := Variable(s, 99, 9)
		chain, e4 := Chain(s, 99)
		place, e5 := Place(s, 99, 9)
		between, e6 := Between(s, 99, 9, 99, 9)
		ok, index, e7 := Holds(s, nil)
		if variables != nil || constraints != nil || chain != nil || place.Constant != "" || between.Constant != "" || ok || index != 0 {
			t.Errorf("%d: results with an error", i)
		}
		for _, e := range []api.Errno{e1, e2, e3, e4, e5, e6, e7} {
			if e != c.want {
				t.Errorf("%d: error %d, not %d", i, e, c.want)
			}
		}
	}
}

// P38.2
func TestVariablesAndConstraints(t *testing.T) {
	l, e := Variables(drilled())
	if want := []api.Dimension{{Name: "a"}, {Name: "h", Nominal: 10000, Lower: -70, Upper: 70}, {Name: "h.size", Nominal: 2000, Upper: 20}}; !slices.Equal(l, want) || e != api.OK {
		t.Errorf("Variables = %v, %d", l, e)
	}
	l, e = Variables(block())
	if want := []api.Dimension{{Name: "base", Nominal: 5}, {Name: "base.form", Upper: 4}, {Name: "rib", Nominal: -100, Lower: -1, Upper: 1}, {Name: "rib.size", Nominal: 31}, {Name: "top", Nominal: 40, Lower: -7, Upper: -3}, {Name: "top.form", Lower: -1, Upper: 2}, {Name: "side", Lower: -11, Upper: 13}, {Name: "side.size", Nominal: 8, Lower: -2, Upper: 5}}; !slices.Equal(l, want) || e != api.OK {
		t.Errorf("Variables = %v, %d", l, e)
	}
	form := func(constant api.Number, terms ...api.Term) api.Form {
		return api.Form{Constant: constant, Terms: terms}
	}
	for i, c := range []struct {
		s    Scheme
		want []api.Constraint
	}{
		{drilled(), []api.Constraint{
			{Name: "h.above", Form: form("-8050", api.Term{Dimension: 1, Factor: "1"}, api.Term{Dimension: 2, Factor: "-1"})},
			{Name: "h.below", Form: form("11950", api.Term{Dimension: 1, Factor: "-1"}, api.Term{Dimension: 2, Factor: "-1"})},
		}},
		{block(), []api.Constraint{
			{Name: "side.above", Form: form("0", api.Term{Dimension: 6, Factor: "1"}, api.Term{Dimension: 7, Factor: "-1"})},
			{Name: "side.below", Form: form("2", api.Term{Dimension: 6, Factor: "-1"}, api.Term{Dimension: 7, Factor: "-1"})},
			{Name: "rib.above", Form: form("130", api.Term{Dimension: 2, Factor: "1"}, api.Term{Dimension: 3, Factor: "-1"})},
			{Name: "rib.below", Form: form("-70", api.Term{Dimension: 2, Factor: "-1"}, api.Term{Dimension: 3, Factor: "-1"})},
		}},
		{Scheme{}, nil},
	} {
		if l, e := Constraints(c.s); fmt.Sprint(l) != fmt.Sprint(c.want) || e != api.OK {
			t.Errorf("%d: Constraints = %v, %d", i, l, e)
		}
	}
	for i, c := range []struct {
		feature, kind, want int
		ok                  bool
		e                   api.Errno
	}{
		{0, Position, 0, true, 0}, {0, Size, 0, false, 0}, {0, Form, 1, true, 0}, {1, Position, 2, true, 0}, {1, Size, 3, true, 0}, {1, Form, 0, false, 0}, {2, Form, 5, true, 0}, {3, Size, 7, true, 0}, {-1, Size, 0, false, api.ErrRange}, {4, 9, 0, false, api.ErrRange}, {3, 0, 0, false, api.ErrKind}, {3, 4, 0, false, api.ErrKind},
	} {
		if n, ok, e := Variable(block(), c.feature, c.kind); n != c.want || ok != c.ok || e != c.e {
			t.Errorf("%d: Variable = %d, %t, %d", i, n, ok, e)
		}
	}
}

// P38.3
func TestPlaces(t *testing.T) {
	s := block()
	for i, c := range []struct {
		feature int
		want    []int
		e       api.Errno
	}{{0, []int{0}, 0}, {2, []int{2, 1, 0}, 0}, {3, []int{3}, 0}, {4, nil, api.ErrRange}, {-1, nil, api.ErrRange}} {
		if l, e := Chain(s, c.feature); !slices.Equal(l, c.want) || e != c.e {
			t.Errorf("%d: Chain = %v, %d", i, l, e)
		}
	}
	for i, c := range []struct {
		feature, side int
		want          string
		e             api.Errno
	}{
		{0, 0, "{0 [{0 1} {1 1}]}", 0}, {1, 0, "{0 [{0 1} {2 1}]}", 0}, {1, -1, "{0 [{0 1} {2 1} {3 -1/2}]}", 0}, {1, 1, "{0 [{0 1} {2 1} {3 1/2}]}", 0}, {2, 0, "{0 [{0 1} {2 1} {4 1} {5 1}]}", 0}, {3, 1, "{0 [{6 1} {7 1/2}]}", 0}, {4, 9, "{ []}", api.ErrRange}, {-1, 0, "{ []}", api.ErrRange}, {0, 1, "{ []}", api.ErrRange}, {0, -1, "{ []}", api.ErrRange}, {1, 2, "{ []}", api.ErrRange}, {1, -2, "{ []}", api.ErrRange},
	} {
		if f, e := Place(s, c.feature, c.side); fmt.Sprint(f) != c.want || e != c.e {
			t.Errorf("%d: Place = %v, %d", i, f, e)
		}
	}
	for i, c := range []struct {
		f, side, g, other int
		want              string
		e                 api.Errno
	}{
		{0, 0, 1, 1, "{0 [{1 -1} {2 1} {3 1/2}]}", 0}, {1, -1, 1, 1, "{0 [{3 1}]}", 0}, {1, 0, 1, 0, "{0 []}", 0}, {2, 0, 1, -1, "{0 [{3 -1/2} {4 -1} {5 -1}]}", 0}, {4, 9, 0, 9, "{ []}", api.ErrRange}, {0, 9, 4, 9, "{ []}", api.ErrRange}, {0, 9, 3, 0, "{ []}", api.ErrRange}, {0, 0, 3, 9, "{ []}", api.ErrRange}, {0, 0, 3, 0, "{ []}", api.ErrConflict},
	} {
		if f, e := Between(s, c.f, c.side, c.g, c.other); fmt.Sprint(f) != c.want || e != c.e {
			t.Errorf("%d: Between = %v, %d", i, f, e)
		}
	}
	if f, e := Place(drilled(), 1, 1); fmt.Sprint(f) != "{0 [{0 1} {1 1} {2 1/2}]}" || e != api.OK {
		t.Errorf("Place = %v, %d", f, e)
	}
}

// P38.4
func TestHolds(t *testing.T) {
	list := func(s string) []api.Number {
		var l []api.Number
		for _, n := range strings.Fields(s) {
			l = append(l, api.Number(n))
		}
		return l
	}
	for i, c := range []struct {
		s      Scheme
		values string
		ok     bool
		zone   int
		e      api.Errno
	}{
		{drilled(), "0 10060 2010", true, 0, 0}, {drilled(), "0 10061 2010", false, 1, 0}, {drilled(), "0 9940 2010", true, 0, 0}, {drilled(), "0 9939 2010", false, 1, 0}, {drilled(), "0 20121/2 2010", false, 1, 0}, {drilled(), "0 20121/2 4021/2", true, 0, 0}, {drilled(), "0 10071 2021", false, 0, 0}, {drilled(), "1 10060 2010", false, -1, 0}, {drilled(), "1 10061 2010", false, 1, 0}, {drilled(), "0 10060", false, 0, api.ErrSize}, {drilled(), "0 10060 2010 0", false, 0, api.ErrSize}, {drilled(), "0 x 1/0", false, 0, api.ErrSyntax}, {drilled(), "0 1 1/0", false, 0, api.ErrZero}, {drilled(), "x x", false, 0, api.ErrSize},
		{block(), "5 4 -101 31 33 2 11 13", true, 0, 0}, {block(), "5 4 -101 31 40 3 14 13", false, 0, 0}, {block(), "5 4 -101 31 40 2 14 13", false, 1, 0}, {block(), "5 5 -101 31 37 2 14 13", false, 2, 0}, {block(), "5 4 -101 31 37 2 13 13", true, 0, 0}, {block(), "5 4 -101 31 37 2 14 13", false, 4, 0}, {block(), "5 4 -102 31 37 2 13 13", false, 5, 0}, {block(), "5 4 -101 32 37 2 13 13", false, -1, 0}, {block(), "6 4 -101 31 37 2 13 13", false, -1, 0}, {Scheme{}, "", true, 0, 0},
	} {
		ok, zone, e := Holds(c.s, list(c.values))
		if ok != c.ok || zone != c.zone || e != c.e {
			t.Errorf("%d: Holds = %t, %d, %d", i, ok, zone, e)
		}
	}
	if _, _, e := Holds(drilled(), []api.Number{"0", "1", api.Number(strings.Repeat("1", api.MaxBytes+1))}); e != api.ErrLong {
		t.Errorf("Holds: %d", e)
	}
	if _, _, e := Holds(drilled(), []api.Number{"0", "1", api.Number(strings.Repeat("1", api.MaxNumber+1))}); e != api.OK {
		t.Errorf("Holds: %d", e)
	}
}

// random returns a scheme with some features and zones.
func random(r *rand.Rand) Scheme {
	var s Scheme
	for i := range 1 + r.Intn(4) {
		f := Feature{Name: fmt.Sprint("f", i), Kind: 1 + r.Intn(2), Datum: r.Intn(i+1) - 1, At: r.Intn(9) - 4}
		if f.Kind == Slot {
			f.Wide = 1 + r.Intn(5)
		}
		if r.Intn(2) == 0 {
			low := r.Intn(5) - 3
			s.Zones = append(s.Zones, Zone{Position, i, low, low + r.Intn(4), f.Kind == Slot && r.Intn(2) == 0})
		}
		if r.Intn(2) == 0 {
			low := r.Intn(5) - 3
			s.Zones = append(s.Zones, Zone{[]int{0, Form, Size}[f.Kind], i, low, low + r.Intn(4), false})
		}
		s.Features = append(s.Features, f)
	}
	r.Shuffle(len(s.Zones), func(i, j int) { s.Zones[i], s.Zones[j] = s.Zones[j], s.Zones[i] })
	return s
}

// P38.5
func TestConsequences(t *testing.T) {
	r := rand.New(rand.NewSource(1))
	kept := 0
	for range 2000 {
		s := random(r)
		variables, e := Variables(s)
		constraints, f := Constraints(s)
		if e != api.OK || f != api.OK || dimension.Check(variables) != api.OK {
			t.Fatalf("Variables, Constraints: %d, %d, %d", e, f, dimension.Check(variables))
		}
		for range 10 {
			var values []api.Number
			for _, v := range variables {
				values = append(values, rational.From(v.Nominal+v.Lower-r.Intn(9)/8+r.Intn(v.Upper-v.Lower+1)+r.Intn(9)/8).Number())
			}
			at, _ := rational.Reads(values)
			want := dimension.Within(variables, at)
			for _, c := range constraints {
				if dimension.CheckForm(c.Form, len(variables)) != api.OK {
					t.Fatalf("a constraint is %v", c)
				}
				v, _ := dimension.Value(c.Form, at)
				want = want && v.Sign() <= 0
			}
			ok, _, e := Holds(s, values)
			if ok != want || e != api.OK {
				t.Fatalf("Holds(%v, %v) = %t, %d", s, values, ok, e)
			}
			if ok {
				kept++
			}
			// A bonus only adds to what is permitted.
			strict := Scheme{s.Features, slices.Clone(s.Zones)}
			for i := range strict.Zones {
				strict.Zones[i].Bonus = false
			}
			if narrow, _, _ := Holds(strict, values); narrow && !ok && sizesKept(s, values) {
				t.Fatalf("the bonus of %v takes %v away", s, values)
			}
		}
		checkNominal(t, s, variables)
		checkDistances(t, r, s)
	}
	if kept < 500 {
		t.Errorf("%d values keep all zones", kept)
	}
}

// sizesKept reports whether sizes are at least the least ones.
func sizesKept(s Scheme, values []api.Number) bool {
	variables, _ := Variables(s)
	at, _ := rational.Reads(values)
	for i, v := range variables {
		if strings.HasSuffix(v.Name, ".size") && rational.Compare(at[i], rational.From(v.Nominal+v.Lower)) < 0 {
			return false
		}
	}
	return true
}

func checkNominal(t *testing.T, s Scheme, variables []api.Dimension) {
	want := !slices.ContainsFunc(s.Zones, func(z Zone) bool { return (z.Lower > 0 || z.Upper < 0) && !z.Bonus })
	if slices.ContainsFunc(s.Zones, func(z Zone) bool { return (z.Lower > 0 || z.Upper < 0) && z.Bonus }) {
		return
	}
	if ok, _, _ := Holds(s, rational.Numbers(dimension.Nominal(variables))); ok != want {
		t.Fatalf("nominal values of %v: %t", s, ok)
	}
}

func checkDistances(t *testing.T, r *rand.Rand, s Scheme) {
	var features, sides [3]int
	for i := range 3 {
		features[i] = r.Intn(len(s.Features))
		if s.Features[features[i]].Kind == Slot {
			sides[i] = r.Intn(3) - 1
		}
	}
	between := func(i, j int) api.Form {
		f, e := Between(s, features[i], sides[i], features[j], sides[j])
		if e != api.OK {
			t.Fatalf("Between: %d", e)
		}
		return f
	}
	if fmt.Sprint(between(0, 1)) != fmt.Sprint(dimension.Scale(between(1, 0), rational.From(-1))) {
		t.Fatal("the distance in the other direction is not the negative one")
	}
	if fmt.Sprint(dimension.Add(between(0, 1), between(1, 2))) != fmt.Sprint(between(0, 2)) {
		t.Fatal("distances do not add up")
	}
}

// Arguments are not changed.
func TestMemory(t *testing.T) {
	s := block()
	Variables(s)
	Constraints(s)
	Holds(s, []api.Number{"5", "4", "-101", "31", "33", "2", "11", "13"})
	if fmt.Sprint(s) != fmt.Sprint(block()) {
		t.Error("a scheme is changed")
	}
}
