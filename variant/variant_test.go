package variant

import (
	"fmt"
	"math/rand"
	"slices"
	"strings"
	"testing"

	"dowel/api"
	"dowel/assembly"
	"dowel/document"
)

func on(option int) Literal { return Literal{option, true} }

func off(option int) Literal { return Literal{option, false} }

func cube() api.Part {
	c := api.Cell{}
	for i := range 8 {
		c.Vertices = append(c.Vertices, api.Vector{i / 4, i / 2 % 2, i % 2})
	}
	return api.Part{Name: "q", Density: 1, Cells: []api.Cell{c}}
}

func instance(name, x string) api.Instance {
	return api.Instance{Name: name, Part: "q", Place: api.Placement{Turn: [4]int{1}, Shift: api.Point{api.Number(x), "0", "0"}}}
}

// family is that of the document, with two instances that penetrate, and a third one, and two dimensions.
func family() Family {
	return Family{
		Base: api.Product{
			Name:         "p",
			Assembly:     api.Assembly{Parts: []api.Part{cube()}, Instances: []api.Instance{instance("i", "0"), instance("k", "1/2"), instance("l", "5")}},
			Dimensions:   []api.Dimension{{Name: "x", Nominal: 10}, {Name: "y", Nominal: 4}},
			Constraints:  []api.Constraint{{Name: "c", Form: api.Form{Constant: "0", Terms: []api.Term{{Dimension: 1, Factor: "1"}}}}},
			Requirements: []api.Requirement{{Name: "r", Gap: api.Expr{Form: api.Form{Constant: "1"}}}},
		},
		Options:   []string{"a", "b", "c"},
		Rules:     []Rule{{"r1", []Literal{on(0), on(1)}}, {"r2", []Literal{off(0), off(1)}}, {"r3", []Literal{off(1), on(2)}}},
		Guards:    []Guard{{1, []Literal{on(2)}}},
		Overrides: []Override{{[]Literal{on(0)}, 0, api.Dimension{Name: "x", Nominal: 20, Lower: -1, Upper: 1}}},
	}
}

// with returns the family with a change.
func with(change func(f *Family)) Family {
	f := family()
	change(&f)
	return f
}

// free returns a family of so many options without rules.
func free(options int) Family {
	var f Family
	for i := range options {
		f.Options = append(f.Options, string(rune('a'+i)))
	}
	return f
}

// P48.1
func TestCheck(t *testing.T) {
	rules := func(n int) []Rule {
		var l []Rule
		for i := range n {
			l = append(l, Rule{Name: fmt.Sprint("r", i)})
		}
		return l
	}
	override := func(change func(o *Override)) Family {
		return with(func(f *Family) { change(&f.Overrides[0]) })
	}
	for i, c := range []struct {
		f    Family
		want api.Errno
	}{
		{family(), api.OK}, {Family{}, api.OK}, {free(12), api.OK}, {Family{Rules: rules(48)}, api.OK}, {with(func(f *Family) { f.Guards, f.Overrides = slices.Repeat(f.Guards, 48), slices.Repeat(f.Overrides, 48) }), api.OK}, {with(func(f *Family) { f.Base.Name, f.Base.Assembly.Parts = "", nil }), api.OK},
		{Family{Options: make([]string, 13)}, api.ErrLimit}, {Family{Options: []string{""}, Rules: make([]Rule, 49)}, api.ErrLimit}, {Family{Options: []string{""}, Guards: make([]Guard, 49)}, api.ErrLimit}, {Family{Options: []string{""}, Overrides: make([]Override, 49)}, api.ErrLimit},
		{with(func(f *Family) { f.Options[0], f.Rules[0].Name = "a b", "" }), api.ErrName}, {with(func(f *Family) { f.Options[2] = strings.Repeat("x", 41) }), api.ErrName}, {with(func(f *Family) { f.Options[1], f.Options[2] = "a", "" }), api.ErrOrder}, {with(func(f *Family) { f.Options[0] = "z" }), api.ErrOrder},
		{with(func(f *Family) { f.Rules[0].Name, f.Rules[0].Any[0].Option = "", 3 }), api.ErrName}, {with(func(f *Family) { f.Rules[1].Name, f.Rules[1].Any[0].Option = "r1", 3 }), api.ErrDuplicate}, {with(func(f *Family) { f.Rules[0].Any[0].Option, f.Guards = 3, make([]Guard, 1) }), api.ErrNotFound}, {with(func(f *Family) { f.Rules[0].Any[1].Option = -1 }), api.ErrNotFound}, {with(func(f *Family) { f.Rules[0].Any = []Literal{on(1), off(1)} }), api.ErrOrder}, {with(func(f *Family) { f.Rules[0].Any = []Literal{on(1), on(0)} }), api.ErrOrder},
		{with(func(f *Family) { f.Guards[0] = Guard{3, []Literal{on(1), on(0)}} }), api.ErrNotFound}, {with(func(f *Family) { f.Guards[0].Instance = -1 }), api.ErrNotFound}, {with(func(f *Family) { f.Guards[0].All = []Literal{on(1), on(0)}; f.Overrides[0].Dimension = 9 }), api.ErrOrder},
		{override(func(o *Override) { o.All, o.Dimension = []Literal{on(0), on(0)}, 9 }), api.ErrOrder}, {override(func(o *Override) { o.Dimension, o.To.Name = 2, "z" }), api.ErrNotFound}, {override(func(o *Override) { o.Dimension = -1 }), api.ErrNotFound}, {override(func(o *Override) { o.To.Name = "y" }), api.ErrConflict}, {override(func(o *Override) { o.To.Lower = 9 }), api.OK},
	} {
		if e := Check(c.f); e != c.want {
			t.Errorf("%d: Check = %d, not %d", i, e, c.want)
		}
		if c.want == api.OK {
			continue
		}
		wrong := []Literal{on(99)}
		allowed, rule, e1 := Allowed(c.f, []string{"?"})
		count, e2 := Count(c.f, wrong)
		first, found, e3 := First(c.f, wrong)
		forced, e4 := Forced(c.f, wrong)
		conflict, is, e5 := Conflict(c.f, wrong)
		p, e6 := Product(c.f, []string{"?"})
		l, e7 := Buildable(c.f, wrong)
		redundant, e8 := Redundant(c.f)
		guards, overrides, e9 := Used(c.f, 99)
		if allowed || rule != 0 || count != 0 || first != nil || found || forced != nil || conflict != nil || is || p.Name != "" || l != nil || redundant != nil || guards != nil || overrides != nil || !slices.Equal([]api.Errno{e1, e2, e3, e4, e5, e6, e7, e8, e9}, slices.Repeat([]api.Errno{c.want}, 9)) {
			t.Errorf("%d: a function has another error", i)
		}
	}
}

// The errors of choices and configurations.
func TestChoices(t *testing.T) {
	f := family()
	for i, c := range []struct {
		choice []Literal
		want   api.Errno
	}{{[]Literal{on(3)}, api.ErrNotFound}, {[]Literal{on(1), on(0), on(3)}, api.ErrOrder}, {[]Literal{on(1), off(1)}, api.ErrOrder}, {[]Literal{on(-1)}, api.ErrNotFound}} {
		count, e1 := Count(f, c.choice)
		_, found, e2 := First(f, c.choice)
		forced, e3 := Forced(f, c.choice)
		conflict, is, e4 := Conflict(f, c.choice)
		l, e5 := Buildable(f, c.choice)
		if count != 0 || found || forced != nil || conflict != nil || is || l != nil || !slices.Equal([]api.Errno{e1, e2, e3, e4, e5}, slices.Repeat([]api.Errno{c.want}, 5)) {
			t.Errorf("%d: %d, %d, %d, %d, %d", i, e1, e2, e3, e4, e5)
		}
	}
	for i, c := range []struct {
		on   []string
		want api.Errno
	}{{[]string{"d"}, api.ErrUnknown}, {[]string{"b", "a", "d"}, api.ErrOrder}, {[]string{"a", "a"}, api.ErrOrder}, {[]string{""}, api.ErrUnknown}} {
		allowed, rule, e1 := Allowed(f, c.on)
		p, e2 := Product(f, c.on)
		if allowed || rule != 0 || p.Name != "" || e1 != c.want || e2 != c.want {
			t.Errorf("%d: %d, %d", i, e1, e2)
		}
	}
}

// P48.2
func TestAllowedCountFirst(t *testing.T) {
	f := family()
	for i, c := range []struct {
		on      []string
		allowed bool
		rule    int
	}{{[]string{"a", "c"}, true, -1}, {[]string{"a"}, true, -1}, {[]string{"b", "c"}, true, -1}, {nil, false, 0}, {[]string{"a", "b"}, false, 1}, {[]string{"b"}, false, 2}, {[]string{"c"}, false, 0}, {[]string{"a", "b", "c"}, false, 1}} {
		if allowed, rule, e := Allowed(f, c.on); allowed != c.allowed || rule != c.rule || e != api.OK {
			t.Errorf("%d: Allowed = %t, %d, %d", i, allowed, rule, e)
		}
	}
	empty := with(func(f *Family) { f.Rules = append(f.Rules, Rule{Name: "never"}) })
	for i, c := range []struct {
		f      Family
		choice []Literal
		count  int
		first  []string
		found  bool
	}{
		{f, nil, 3, []string{"a", "c"}, true}, {f, []Literal{off(2)}, 1, []string{"a"}, true}, {f, []Literal{on(1)}, 1, []string{"b", "c"}, true}, {f, []Literal{on(1), off(2)}, 0, nil, false}, {f, []Literal{off(0), off(1), off(2)}, 0, nil, false}, {empty, nil, 0, nil, false}, {free(12), nil, 4096, strings.Split("abcdefghijkl", ""), true}, {free(12), []Literal{off(0), off(11)}, 1024, strings.Split("bcdefghijk", ""), true}, {Family{}, nil, 1, nil, true}, {with(func(f *Family) { f.Rules = nil }), []Literal{off(0), off(1), off(2)}, 1, nil, true},
	} {
		count, e := Count(c.f, c.choice)
		first, found, e2 := First(c.f, c.choice)
		if count != c.count || !slices.Equal(first, c.first) || found != c.found || e+e2 != api.OK {
			t.Errorf("%d: Count = %d, First = %v, %t, %d, %d", i, count, first, found, e, e2)
		}
	}
}

// P48.3
func TestForcedAndConflict(t *testing.T) {
	f := family()
	for i, c := range []struct {
		choice []Literal
		forced []Literal
		rules  []int
	}{
		{[]Literal{on(1)}, []Literal{off(0), on(1), on(2)}, nil}, {nil, nil, nil}, {[]Literal{off(2)}, []Literal{on(0), off(1), off(2)}, nil}, {[]Literal{on(0)}, []Literal{on(0), off(1)}, nil}, {[]Literal{on(1), off(2)}, nil, []int{2}}, {[]Literal{off(0), off(2)}, nil, []int{0, 2}}, {[]Literal{on(0), on(1)}, nil, []int{1}}, {[]Literal{off(0), off(1)}, nil, []int{0}}, {[]Literal{on(0), on(1), off(2)}, nil, []int{2}},
	} {
		forced, e := Forced(f, c.choice)
		want := api.OK
		if c.rules != nil {
			want = api.ErrInfeasible
		}
		if !slices.Equal(forced, c.forced) || e != want {
			t.Errorf("%d: Forced = %v, %d", i, forced, e)
		}
		if rules, found, e := Conflict(f, c.choice); !slices.Equal(rules, c.rules) || found != (c.rules != nil) || e != api.OK {
			t.Errorf("%d: Conflict = %v, %t, %d", i, rules, found, e)
		}
	}
	never := with(func(f *Family) { f.Rules = slices.Insert(f.Rules, 1, Rule{Name: "never"}) })
	if rules, found, e := Conflict(never, []Literal{on(1), off(2)}); !slices.Equal(rules, []int{3}) || !found || e != api.OK {
		t.Errorf("Conflict = %v, %t, %d", rules, found, e)
	}
	if rules, found, e := Conflict(never, nil); !slices.Equal(rules, []int{1}) || !found || e != api.OK {
		t.Errorf("Conflict = %v, %t, %d", rules, found, e)
	}
}

// P48.4
func TestProductAndBuildable(t *testing.T) {
	f := family()
	p, e := Product(f, []string{"a"})
	want := f.Base
	want.Assembly.Instances = []api.Instance{instance("i", "0"), instance("l", "5")}
	want.Dimensions = []api.Dimension{{Name: "x", Nominal: 20, Lower: -1, Upper: 1}, {Name: "y", Nominal: 4}}
	if !document.Equal(p, want) || e != api.OK {
		t.Errorf("Product = %v, %d", p, e)
	}
	if p, e := Product(f, []string{"b", "c"}); !document.Equal(p, family().Base) || e != api.OK {
		t.Errorf("Product = %v, %d", p, e)
	}
	if p, e := Product(f, nil); p.Name != "" || p.Dimensions != nil || e != api.ErrConflict {
		t.Errorf("Product = %v, %d", p, e)
	}
	p.Assembly.Parts[0].Cells[0].Vertices[0][0], p.Constraints[0].Form.Terms[0].Dimension, p.Dimensions[1].Name = 9, 9, "z"
	if !document.Equal(f.Base, family().Base) {
		t.Error("memory is shared")
	}
	// Of several guards all must hold; of several overrides the last one counts.
	more := with(func(f *Family) {
		f.Guards = append(f.Guards, Guard{0, []Literal{on(0), on(2)}}, Guard{0, []Literal{on(0)}}, Guard{2, nil})
		f.Overrides = append(f.Overrides, Override{[]Literal{off(1), on(2)}, 0, api.Dimension{Name: "x", Nominal: 30}}, Override{[]Literal{on(1)}, 0, api.Dimension{Name: "x"}}, Override{nil, 1, api.Dimension{Name: "y", Nominal: 5}})
	})
	for i, c := range []struct {
		on        []string
		instances string
		x         int
	}{{[]string{"a", "c"}, "ikl", 30}, {[]string{"a"}, "l", 20}, {[]string{"b", "c"}, "kl", 0}} {
		p, e := Product(more, c.on)
		names := ""
		for _, x := range p.Assembly.Instances {
			names += x.Name
		}
		if names != c.instances || p.Dimensions[0].Nominal != c.x || p.Dimensions[1].Nominal != 5 || e != api.OK {
			t.Errorf("%d: Product = %v, %d", i, p, e)
		}
	}
	for i, c := range []struct {
		f      Family
		choice []Literal
		want   string
		e      api.Errno
	}{
		{f, nil, "[[a]]", 0}, {more, nil, "[[a] [b c]]", 0}, {f, []Literal{on(2)}, "[]", 0}, {f, []Literal{on(1), off(2)}, "[]", 0}, {free(6), []Literal{}, "64", 0}, {free(7), nil, "[]", api.ErrLimit}, {free(7), []Literal{on(3)}, "64", 0}, {Family{}, nil, "[[]]", 0}, {with(func(f *Family) { f.Base.Assembly.Parts = nil }), nil, "[]", 0},
	} {
		l, e := Buildable(c.f, c.choice)
		if fmt.Sprint(l) != c.want && fmt.Sprint(len(l)) != c.want || e != c.e {
			t.Errorf("%d: Buildable = %v, %d", i, l, e)
		}
	}
}

// P48.5
func TestRedundantAndUsed(t *testing.T) {
	rule := func(name string, l ...Literal) Rule { return Rule{name, l} }
	for i, c := range []struct {
		rules []Rule
		want  []int
	}{
		{family().Rules, nil}, {[]Rule{rule("a", on(0)), rule("b", on(0), on(1)), rule("c", on(0))}, []int{1, 2}}, {[]Rule{rule("b", on(0), on(1)), rule("a", on(0))}, nil}, {[]Rule{rule("a", on(0), on(1)), rule("b", off(0), on(1)), rule("c", on(1), on(2)), rule("d", on(2))}, []int{2}}, {[]Rule{rule("never"), rule("a", on(0)), rule("b")}, []int{1, 2}}, {nil, nil},
	} {
		f := free(3)
		f.Rules = c.rules
		if l, e := Redundant(f); !slices.Equal(l, c.want) || e != api.OK {
			t.Errorf("%d: Redundant = %v, %d", i, l, e)
		}
	}
	f := with(func(f *Family) {
		f.Guards = append(f.Guards, Guard{0, []Literal{off(0), on(2)}})
		f.Overrides = append(f.Overrides, Override{[]Literal{on(1), off(2)}, 1, api.Dimension{Name: "y"}})
	})
	for i, c := range []struct{ guards, overrides []int }{{[]int{1}, []int{0}}, {nil, []int{1}}, {[]int{0, 1}, []int{1}}} {
		if guards, overrides, e := Used(f, i); !slices.Equal(guards, c.guards) || !slices.Equal(overrides, c.overrides) || e != api.OK {
			t.Errorf("%d: Used = %v, %v, %d", i, guards, overrides, e)
		}
	}
	for _, option := range []int{-1, 3} {
		if guards, overrides, e := Used(f, option); guards != nil || overrides != nil || e != api.ErrNotFound {
			t.Errorf("Used = %v, %v, %d", guards, overrides, e)
		}
	}
}

func randomLiterals(r *rand.Rand, options, share int) []Literal {
	var l []Literal
	for i := range options {
		if r.Intn(share) == 0 {
			l = append(l, Literal{i, r.Intn(2) == 0})
		}
	}
	return l
}

func random(r *rand.Rand) Family {
	f := free(1 + r.Intn(5))
	for i := range r.Intn(7) {
		f.Rules = append(f.Rules, Rule{fmt.Sprint("r", i), randomLiterals(r, len(f.Options), 2)})
	}
	f.Base.Dimensions = []api.Dimension{{Name: "x"}}
	f.Base.Assembly = api.Assembly{Parts: []api.Part{cube()}, Instances: []api.Instance{instance("i", "0"), instance("k", "1/2")}}
	for i := range r.Intn(3) {
		f.Guards = append(f.Guards, Guard{r.Intn(2), randomLiterals(r, len(f.Options), 3)})
		f.Overrides = append(f.Overrides, Override{randomLiterals(r, len(f.Options), 3), 0, api.Dimension{Name: "x", Nominal: 1 + i}})
	}
	return f
}

// configurations returns all configurations, in order.
func configurations(f Family) [][]string {
	l := [][]string{nil}
	for _, name := range f.Options {
		var longer [][]string
		for _, c := range l {
			longer = append(longer, append(slices.Clone(c), name), c)
		}
		l = longer
	}
	return l
}

func isOf(f Family, on []string, choice []Literal) bool {
	return !slices.ContainsFunc(choice, func(x Literal) bool { return slices.Contains(on, f.Options[x.Option]) != x.On })
}

// P48.6
func TestConsequences(t *testing.T) {
	r := rand.New(rand.NewSource(1))
	conflicts := 0
	for range 600 {
		f := random(r)
		before := fmt.Sprint(f)
		choice := randomLiterals(r, len(f.Options), 3)
		var allowed [][]string
		for _, c := range configurations(f) {
			if is, _, _ := Allowed(f, c); is && isOf(f, c, choice) {
				allowed = append(allowed, c)
			}
		}
		count, _ := Count(f, choice)
		first, found, _ := First(f, choice)
		if count != len(allowed) || found != (count > 0) || found && !slices.Equal(first, allowed[0]) {
			t.Fatalf("Count = %d, First = %v, not %v", count, first, allowed)
		}
		forced, _ := Forced(f, choice)
		for i := range f.Options {
			for _, is := range []bool{true, false} {
				always := len(allowed) > 0 && !slices.ContainsFunc(allowed, func(c []string) bool { return slices.Contains(c, f.Options[i]) != is })
				if always != slices.Contains(forced, Literal{i, is}) {
					t.Fatalf("Forced = %v", forced)
				}
			}
		}
		if count == 0 {
			conflicts++
			checkConflict(t, f, choice)
		}
		checkLess(t, f)
		checkUsed(t, f)
		checkBuildable(t, f, choice, allowed)
		checkMore(t, r, f, choice, count)
		if fmt.Sprint(f) != before {
			t.Fatal("an argument is changed")
		}
	}
	if conflicts < 50 {
		t.Errorf("%d conflicts", conflicts)
	}
}

// keep returns the family with some of its rules.
func keep(f Family, rules []int) Family {
	all := f.Rules
	f.Rules = nil
	for _, i := range rules {
		f.Rules = append(f.Rules, all[i])
	}
	return f
}

func checkConflict(t *testing.T, f Family, choice []Literal) {
	rules, found, _ := Conflict(f, choice)
	if n, _ := Count(keep(f, rules), choice); !found || n != 0 || !slices.IsSorted(rules) {
		t.Fatalf("Conflict = %v, %t", rules, found)
	}
	for i := range rules {
		if n, _ := Count(keep(f, slices.Delete(slices.Clone(rules), i, i+1)), choice); n == 0 {
			t.Fatalf("without the rule %d there is a conflict, too", rules[i])
		}
	}
}

// checkLess leaves out redundant rules.
func checkLess(t *testing.T, f Family) {
	redundant, _ := Redundant(f)
	var rules []int
	for i := range f.Rules {
		if !slices.Contains(redundant, i) {
			rules = append(rules, i)
		}
	}
	less := keep(f, rules)
	for _, c := range configurations(f) {
		a, _, _ := Allowed(f, c)
		b, _, _ := Allowed(less, c)
		if a != b {
			t.Fatalf("without the rules %v, %v is allowed: %t", redundant, c, b)
		}
	}
	if more, _ := Redundant(less); len(more) > 0 {
		t.Fatalf("Redundant = %v", more)
	}
}

// checkUsed changes options that are not used.
func checkUsed(t *testing.T, f Family) {
	f.Rules = nil
	for i, name := range f.Options {
		guards, overrides, _ := Used(f, i)
		if len(guards)+len(overrides) > 0 {
			continue
		}
		for _, c := range configurations(f) {
			other := slices.DeleteFunc(slices.Clone(c), func(x string) bool { return x == name })
			p, _ := Product(f, c)
			q, _ := Product(f, other)
			if !document.Equal(p, q) {
				t.Fatalf("the product depends on %s, which is not used", name)
			}
		}
	}
}

func checkBuildable(t *testing.T, f Family, choice []Literal, allowed [][]string) {
	var want [][]string
	for _, c := range allowed {
		p, _ := Product(f, c)
		if _, _, e := assembly.Sound(p.Assembly); e == api.OK {
			want = append(want, c)
		}
	}
	if l, e := Buildable(f, choice); e != api.OK || !slices.EqualFunc(l, want, slices.Equal[[]string]) {
		t.Fatalf("Buildable = %v, %d, not %v", l, e, want)
	}
}

// checkMore adds a literal to a choice, and a rule.
func checkMore(t *testing.T, r *rand.Rand, f Family, choice []Literal, count int) {
	option := r.Intn(len(f.Options))
	at, isThere := slices.BinarySearchFunc(choice, option, func(x Literal, option int) int { return x.Option - option })
	if !isThere {
		a, _ := Count(f, slices.Insert(slices.Clone(choice), at, on(option)))
		b, _ := Count(f, slices.Insert(slices.Clone(choice), at, off(option)))
		if a+b != count {
			t.Fatalf("%d and %d are not %d", a, b, count)
		}
	}
	f.Rules = append(slices.Clone(f.Rules), Rule{"more", randomLiterals(r, len(f.Options), 2)})
	if n, _ := Count(f, choice); n > count {
		t.Fatal("a further rule allows more")
	}
}

// Full families are examined in a short time.
func TestFullFamily(t *testing.T) {
	r := rand.New(rand.NewSource(1))
	f := free(12)
	for i := range MaxRules {
		f.Rules = append(f.Rules, Rule{fmt.Sprint("r", i), randomLiterals(r, 12, 3)})
	}
	if _, found, e := Conflict(f, nil); e != api.OK || found {
		if n, _ := Count(f, nil); n > 0 || e != api.OK {
			t.Errorf("Conflict: %t, %d", found, e)
		}
	}
}
