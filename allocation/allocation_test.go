package allocation

import (
	"fmt"
	"math/rand"
	"slices"
	"strings"
	"testing"

	"dowel/api"
	"dowel/dimension"
	"dowel/rational"
)

// formed returns a form with a constant and terms, given as dimension and factor in turn.
func formed(constant string, terms ...any) api.Form {
	f := api.Form{Constant: api.Number(constant)}
	for i := 0; i < len(terms); i += 2 {
		f.Terms = append(f.Terms, api.Term{Dimension: terms[i].(int), Factor: api.Number(terms[i+1].(string))})
	}
	return f
}

func requirement(name string, f api.Form, low, high api.Number) api.Requirement {
	return api.Requirement{Name: name, Gap: api.Expr{Form: f}, Low: low, High: high}
}

// two is the offer of the document, with other bounds.
func two(low, high api.Number) api.Offer {
	return api.Offer{
		Dimensions:   []api.Dimension{{Name: "a", Nominal: 10}, {Name: "b", Nominal: 10}},
		Options:      [][]api.Option{{{Lower: -2, Upper: 2, Cost: 1}, {Lower: -1, Upper: 1, Cost: 4}}, {{Lower: -3, Upper: 3, Cost: 1}, {Lower: -1, Upper: 1, Cost: 2}}},
		Requirements: []api.Requirement{requirement("r", formed("0", 0, "1", 1, "1"), low, high)},
	}
}

// with returns the offer of the document with a change.
func with(change func(o *api.Offer)) api.Offer {
	o := two("18", "22")
	change(&o)
	return o
}

// many returns an offer with so many dimensions, each with so many options.
func many(dimensions, options int) api.Offer {
	var o api.Offer
	for i := range dimensions {
		o.Dimensions = append(o.Dimensions, api.Dimension{Name: fmt.Sprint("d", i)})
		o.Options = append(o.Options, make([]api.Option, options))
	}
	return o
}

// P43.1
func TestCheck(t *testing.T) {
	const most = api.MaxLength
	long := api.Number(strings.Repeat("1", api.MaxNumber+1))
	option := func(x api.Option) api.Offer {
		return with(func(o *api.Offer) { o.Options[1][1] = x })
	}
	required := func(l ...api.Requirement) api.Offer {
		return with(func(o *api.Offer) { o.Requirements = l })
	}
	var names []api.Requirement
	for i := range MaxRequirements + 1 {
		names = append(names, requirement(fmt.Sprint("r", i), formed("0"), "", ""))
	}
	two8 := many(12, 2)
	two8.Options[3] = make([]api.Option, 3)
	form := api.Expr{Form: formed("0")}
	for i, c := range []struct {
		o    api.Offer
		want api.Errno
	}{
		{two("18", "22"), api.OK}, {many(12, 2), api.OK}, {many(4, 8), api.OK}, {many(1, 8), api.OK}, {required(names[:16]...), api.OK},
		{api.Offer{}, api.ErrEmpty}, {many(13, 0), api.ErrLimit}, {with(func(o *api.Offer) { o.Dimensions[0].Name, o.Dimensions[1].Lower = "b", 1 }), api.ErrOrder}, {with(func(o *api.Offer) { o.Dimensions[0].Name = "b"; o.Dimensions[0].Upper = 1 }), api.ErrDuplicate}, {with(func(o *api.Offer) { o.Dimensions[0].Upper, o.Options = 1, nil }), api.ErrForm}, {with(func(o *api.Offer) { o.Dimensions[1].Lower, o.Options = -1, nil }), api.ErrForm}, {with(func(o *api.Offer) { o.Options[0] = nil; o.Options = o.Options[:1] }), api.ErrSize}, {with(func(o *api.Offer) { o.Options = append(o.Options, nil) }), api.ErrSize},
		{with(func(o *api.Offer) { o.Options[1] = nil; o.Options[0][0].Cost = -1 }), api.ErrRange}, {with(func(o *api.Offer) { o.Options[0] = nil; o.Options[1][0].Cost = -1 }), api.ErrEmpty}, {with(func(o *api.Offer) { o.Options[1] = make([]api.Option, 9); o.Options[1][0].Cost = -1 }), api.ErrLimit},
		{option(api.Option{Lower: -most - 1}), api.ErrRange}, {option(api.Option{Lower: 1, Upper: most + 1}), api.ErrRange}, {option(api.Option{Lower: 1, Cost: api.MaxSmall + 1}), api.ErrRange}, {option(api.Option{Lower: 1, Cost: -1}), api.ErrRange}, {option(api.Option{Lower: 1}), api.ErrOrder}, {option(api.Option{Lower: -most, Upper: most, Cost: api.MaxSmall}), api.OK},
		{two8, api.ErrLimit}, {many(5, 6), api.ErrLimit}, {many(12, 8), api.ErrLimit}, {required(append(names, api.Requirement{})...), api.ErrLimit}, {required(names...), api.ErrLimit},
		{required(api.Requirement{Gap: api.Expr{Op: 9}}), api.ErrName}, {required(names[0], api.Requirement{Name: "r0", Gap: api.Expr{Op: 9}}), api.ErrDuplicate}, {required(api.Requirement{Name: "r", Gap: api.Expr{Op: 9}}), api.ErrKind}, {required(requirement("r", formed("0", 2, "1"), "", "")), api.ErrRange}, {required(requirement("r", formed("x"), "", "")), api.ErrSyntax}, {required(api.Requirement{Name: "r", Gap: api.Expr{Op: api.OpMin, Args: []api.Expr{form}}, Low: "x"}), api.ErrKind}, {required(api.Requirement{Name: "r", Gap: api.Expr{Op: api.OpAdd}, Low: "x"}), api.ErrForm},
		{required(requirement("r", formed("0"), "1/0", "x")), api.ErrZero}, {required(requirement("r", formed("0"), "1", "2/4")), api.ErrForm}, {required(requirement("r", formed("0"), "", long)), api.ErrLong}, {required(requirement("r", formed("0"), "1", "1/2")), api.ErrOrder}, {required(requirement("r", formed("0"), "1/2", "1/2")), api.OK},
	} {
		if e := Check(c.o); e != c.want {
			t.Errorf("%d: Check = %d, not %d", i, e, c.want)
		}
		if c.want == api.OK {
			continue
		}
		cost, e1 := Cost(c.o, nil)
		least, greatest, e2 := Worst(c.o, nil, 0)
		failed, is, e3 := Meets(c.o, nil)
		bound, e4 := Bound(c.o, []int{99})
		which, side, fails, e5 := Fails(c.o, []int{99})
		a, e6 := Allocate(c.o)
		e7 := Verify(c.o, api.Allocation{Cost: 1})
		if cost != 0 || least+greatest != "" || failed != 0 || is || bound != 0 || which != 0 || side != 0 || fails || a.Possible || a.Proof != nil || !slices.Equal([]api.Errno{e1, e2, e3, e4, e5, e6, e7}, slices.Repeat([]api.Errno{c.want}, 7)) {
			t.Errorf("%d: %d, %d, %d, %d, %d, %d, %d", i, e1, e2, e3, e4, e5, e6, e7)
		}
	}
}

// P43.2
func TestChoices(t *testing.T) {
	o := two("18", "22")
	o.Requirements = append(o.Requirements, requirement("s", formed("1/2", 1, "-1/3"), "", "-2"))
	for i, c := range []struct {
		choice          []int
		cost            int
		least, greatest api.Number // of the first requirement
		failed          int
		is              bool
	}{
		{[]int{0, 0}, 2, "15", "25", 0, false}, {[]int{0, 1}, 3, "17", "23", 0, false}, {[]int{1, 0}, 5, "16", "24", 0, false}, {[]int{1, 1}, 6, "18", "22", 0, true},
	} {
		cost, e := Cost(o, c.choice)
		least, greatest, e2 := Worst(o, c.choice, 0)
		failed, is, e3 := Meets(o, c.choice)
		if cost != c.cost || least != c.least || greatest != c.greatest || failed != c.failed || is != c.is || e+e2+e3 != api.OK {
			t.Errorf("%d: %d, %s, %s, %d, %t", i, cost, least, greatest, failed, is)
		}
	}
	if least, greatest, e := Worst(o, []int{0, 0}, 1); least != "-23/6" || greatest != "-11/6" || e != api.OK {
		t.Errorf("Worst = %s, %s, %d", least, greatest, e)
	}
	o.Requirements[0].Low, o.Requirements[0].High = "", "25"
	if failed, is, e := Meets(o, []int{0, 0}); failed != 1 || is || e != api.OK {
		t.Errorf("Meets = %d, %t, %d", failed, is, e)
	}
	o.Requirements[1].High = "-11/6"
	if failed, is, e := Meets(o, []int{0, 0}); failed != 0 || !is || e != api.OK {
		t.Errorf("Meets = %d, %t, %d", failed, is, e)
	}
	for i, c := range []struct {
		choice []int
		want   api.Errno
	}{{nil, api.ErrSize}, {[]int{9}, api.ErrSize}, {[]int{0, 0, 0}, api.ErrSize}, {[]int{2, 0}, api.ErrRange}, {[]int{0, -1}, api.ErrRange}} {
		cost, e := Cost(o, c.choice)
		least, greatest, e2 := Worst(o, c.choice, 9)
		failed, is, e3 := Meets(o, c.choice)
		e4 := Verify(o, api.Allocation{Possible: true, Choice: c.choice, Cost: 99})
		if cost != 0 || least+greatest != "" || failed != 0 || is || e != c.want || e2 != c.want || e3 != c.want || e4 != c.want {
			t.Errorf("%d: %d, %d, %d, %d", i, e, e2, e3, e4)
		}
	}
	for _, requirement := range []int{-1, 2} {
		if least, greatest, e := Worst(o, []int{0, 0}, requirement); least+greatest != "" || e != api.ErrRange {
			t.Errorf("Worst = %s, %s, %d", least, greatest, e)
		}
	}
}

// P43.3
func TestPrefixes(t *testing.T) {
	for i, c := range []struct {
		low, high   api.Number
		prefix      []int
		bound       int
		requirement int
		side        int
		is          bool
	}{
		{"18", "22", nil, 2, 0, 0, false}, {"18", "22", []int{0}, 2, 0, above, true}, {"18", "22", []int{1}, 5, 0, 0, false}, {"18", "22", []int{1, 0}, 5, 0, above, true}, {"18", "22", []int{1, 1}, 6, 0, 0, false}, {"18", "", []int{0}, 2, 0, below, true}, {"17", "", []int{0}, 2, 0, 0, false}, {"", "23", []int{0}, 2, 0, 0, false}, {"", "45/2", []int{0}, 2, 0, above, true}, {"19", "21", nil, 2, 0, above, true}, {"19", "", nil, 2, 0, below, true}, {"", "", []int{0, 0}, 2, 0, 0, false}, {"19", "22", nil, 2, 0, below, true},
	} {
		o := two(c.low, c.high)
		bound, e := Bound(o, c.prefix)
		requirement, side, is, e2 := Fails(o, c.prefix)
		if bound != c.bound || requirement != c.requirement || side != c.side || is != c.is || e+e2 != api.OK {
			t.Errorf("%d: %d, %d, %d, %t, %d, %d", i, bound, requirement, side, is, e, e2)
		}
	}
	o := two("0", "30")
	o.Requirements = append(o.Requirements, requirement("s", formed("0", 1, "-2"), "", "-15"), requirement("t", formed("1"), "2", "2"))
	if requirement, side, is, e := Fails(o, []int{0, 0}); requirement != 1 || side != above || !is || e != api.OK {
		t.Errorf("Fails = %d, %d, %t, %d", requirement, side, is, e)
	}
	if requirement, side, is, e := Fails(o, []int{0}); requirement != 2 || side != below || !is || e != api.OK {
		t.Errorf("Fails = %d, %d, %t, %d", requirement, side, is, e)
	}
	for i, c := range []struct {
		prefix []int
		want   api.Errno
	}{{[]int{0, 0, 0}, api.ErrSize}, {[]int{9, 9, 9}, api.ErrSize}, {[]int{2}, api.ErrRange}, {[]int{0, -1}, api.ErrRange}} {
		bound, e := Bound(o, c.prefix)
		requirement, side, is, e2 := Fails(o, c.prefix)
		if bound != 0 || requirement != 0 || side != 0 || is || e != c.want || e2 != c.want {
			t.Errorf("%d: %d, %d", i, e, e2)
		}
	}
}

func picked(options ...int) []api.Pick {
	var l []api.Pick
	for i, x := range options {
		l = append(l, api.Pick{Dimension: i, Option: x})
	}
	return l
}

// failing returns a leaf at which the first requirement fails.
func failing(dual api.Number, options ...int) api.Bound {
	return api.Bound{Fixed: picked(options...), Duals: []api.Number{dual}}
}

// P43.4, P43.5
func TestAllocate(t *testing.T) {
	for i, c := range []struct {
		o        api.Offer
		possible bool
		choice   []int
		cost     int
	}{
		{two("18", "22"), true, []int{1, 1}, 6}, {two("19", "21"), false, nil, 0}, {two("", ""), true, []int{0, 0}, 2}, {two("17", "23"), true, []int{0, 1}, 3}, {two("16", "24"), true, []int{0, 1}, 3}, {many(12, 2), true, make([]int, 12), 0},
	} {
		a, e := Allocate(c.o)
		if a.Possible != c.possible || a.Cost != c.cost || !slices.Equal(a.Choice, c.choice) || e != api.OK {
			t.Errorf("%d: Allocate = %v, %d", i, a, e)
		}
		if e := Verify(c.o, a); e != api.OK {
			t.Errorf("%d: Verify = %d", i, e)
		}
	}
	if a, _ := Allocate(two("19", "21")); len(a.Proof) != 1 || len(a.Proof[0].Fixed) != 0 {
		t.Errorf("Allocate = %v", a)
	}
}

// P43.5
func TestVerify(t *testing.T) {
	good := func() api.Allocation {
		return api.Allocation{Possible: true, Choice: []int{1, 1}, Cost: 6, Proof: []api.Bound{failing("1", 0), failing("1", 1, 0), {Fixed: picked(1, 1), Least: 6, Requirement: -1}}}
	}
	o := two("18", "22")
	for i, change := range []func(a *api.Allocation){
		func(a *api.Allocation) {}, func(a *api.Allocation) { a.Proof[0] = failing("-1", 0) }, func(a *api.Allocation) { a.Proof[1].Duals[0] = "-1" },
		// Leaves further behind prove it, too.
		func(a *api.Allocation) {
			a.Proof = slices.Insert(a.Proof[1:], 0, failing("1", 0, 0), failing("-1", 0, 1))
		},
	} {
		a := good()
		change(&a)
		if e := Verify(o, a); e != api.OK {
			t.Errorf("%d: Verify = %d", i, e)
		}
	}
	for i, c := range []struct {
		change func(a *api.Allocation)
		want   api.Errno
	}{
		{func(a *api.Allocation) { a.Choice = []int{1} }, api.ErrSize}, {func(a *api.Allocation) { a.Choice, a.Cost = []int{1, 2}, 0 }, api.ErrRange}, {func(a *api.Allocation) { a.Cost = 5 }, api.ErrConflict}, {func(a *api.Allocation) { a.Choice, a.Cost, a.Proof = []int{0, 1}, 3, nil }, api.ErrTooWide}, {func(a *api.Allocation) { a.Possible = false }, api.ErrForm}, {func(a *api.Allocation) { a.Possible, a.Choice = false, nil }, api.ErrForm}, {func(a *api.Allocation) { a.Possible, a.Cost = false, 0 }, api.ErrForm},
		{func(a *api.Allocation) { a.Possible, a.Choice, a.Cost = false, nil, 0 }, api.ErrCertificate}, {func(a *api.Allocation) { a.Proof = nil }, api.ErrCertificate}, {func(a *api.Allocation) { a.Proof = a.Proof[:2] }, api.ErrCertificate}, {func(a *api.Allocation) { a.Proof = append(a.Proof, a.Proof[2]) }, api.ErrCertificate}, {func(a *api.Allocation) { a.Proof = a.Proof[1:] }, api.ErrCertificate}, {func(a *api.Allocation) { slices.Reverse(a.Proof) }, api.ErrCertificate},
		{func(a *api.Allocation) { a.Proof[0].Requirement = 1 }, api.ErrCertificate}, {func(a *api.Allocation) { a.Proof[0].Requirement = -2 }, api.ErrCertificate}, {func(a *api.Allocation) { a.Proof[0].Least = 2 }, api.ErrCertificate}, {func(a *api.Allocation) { a.Proof[0].Duals = nil }, api.ErrCertificate}, {func(a *api.Allocation) { a.Proof[0].Duals = []api.Number{"1", "1"} }, api.ErrCertificate}, {func(a *api.Allocation) { a.Proof[0].Duals = []api.Number{"2"} }, api.ErrCertificate}, {func(a *api.Allocation) { a.Proof[0].Duals = []api.Number{"0"} }, api.ErrCertificate},
		{func(a *api.Allocation) { a.Proof[0] = api.Bound{Fixed: picked(0), Least: 2, Requirement: -1} }, api.ErrCertificate}, {func(a *api.Allocation) { a.Proof[0] = api.Bound{Fixed: picked(0), Least: 6, Requirement: -1} }, api.ErrCertificate}, {func(a *api.Allocation) { a.Proof[2].Least = 7 }, api.ErrCertificate}, {func(a *api.Allocation) { a.Proof[2].Duals = []api.Number{"1"} }, api.ErrCertificate}, {func(a *api.Allocation) { a.Proof[2] = failing("1", 1, 1) }, api.ErrCertificate}, {func(a *api.Allocation) { a.Proof[0].Fixed[0].Dimension = 1 }, api.ErrCertificate}, {func(a *api.Allocation) { a.Proof[0].Fixed[0].Option = 1 }, api.ErrCertificate}, {func(a *api.Allocation) { a.Proof[0].Fixed = nil }, api.ErrCertificate}, {func(a *api.Allocation) { a.Proof[2].Fixed = picked(1, 1, 0) }, api.ErrCertificate}, {func(a *api.Allocation) { a.Proof[2].Fixed = picked(1, 2) }, api.ErrCertificate},
	} {
		a := good()
		c.change(&a)
		if e := Verify(o, a); e != c.want {
			t.Errorf("%d: Verify = %d, not %d", i, e, c.want)
		}
	}
	for dual, want := range map[api.Number]api.Errno{"1": api.OK, "-1": api.OK, "0": api.ErrCertificate} {
		if e := Verify(two("19", "21"), api.Allocation{Proof: []api.Bound{failing(dual)}}); e != want {
			t.Errorf("Verify = %d", e)
		}
	}
	// A bound is no proof that nothing is possible.
	if e := Verify(two("19", "21"), api.Allocation{Proof: []api.Bound{{Least: 2, Requirement: -1}}}); e != api.ErrCertificate {
		t.Errorf("Verify = %d", e)
	}
	// A dearer choice is none that can be proved.
	a, _ := Allocate(two("17", "23"))
	a.Choice, a.Cost = []int{1, 1}, 6
	if e := Verify(two("17", "23"), a); e != api.ErrCertificate {
		t.Errorf("Verify = %d", e)
	}
}

func random(r *rand.Rand) api.Offer {
	var o api.Offer
	for i := range 1 + r.Intn(4) {
		o.Dimensions = append(o.Dimensions, api.Dimension{Name: fmt.Sprint("d", i), Nominal: r.Intn(5)})
		var l []api.Option
		for range 1 + r.Intn(4) {
			lower := -r.Intn(4)
			l = append(l, api.Option{Lower: lower, Upper: lower + r.Intn(5), Cost: r.Intn(9)})
		}
		o.Options = append(o.Options, l)
	}
	for i := range r.Intn(4) {
		f := formed(fmt.Sprint(r.Intn(5) - 2))
		for d := range o.Dimensions {
			if k := r.Intn(5) - 2; k != 0 {
				f.Terms = append(f.Terms, api.Term{Dimension: d, Factor: api.Number(fmt.Sprint(k))})
			}
		}
		bounds := [2]api.Number{api.Number(fmt.Sprint(-3 - r.Intn(12))), api.Number(fmt.Sprint(3 + r.Intn(14)))}
		if k := r.Intn(4); k < 2 {
			bounds[k] = ""
		}
		o.Requirements = append(o.Requirements, requirement(fmt.Sprint("r", i), f, bounds[0], bounds[1]))
	}
	return o
}

// choices returns all choices of an offer.
func choices(o api.Offer) [][]int {
	l := [][]int{nil}
	for _, options := range o.Options {
		var longer [][]int
		for _, c := range l {
			for i := range options {
				longer = append(longer, append(slices.Clone(c), i))
			}
		}
		l = longer
	}
	return l
}

// meets looks at the worst values of all requirements, without the table.
func meets(o api.Offer, choice []int) bool {
	l := slices.Clone(o.Dimensions)
	for i, x := range choice {
		l[i].Lower, l[i].Upper = o.Options[i][x].Lower, o.Options[i][x].Upper
	}
	for _, r := range o.Requirements {
		least, greatest, _ := dimension.Bounds(r.Gap, l)
		low, e := rational.Read(r.Low)
		high, e2 := rational.Read(r.High)
		if e == api.OK && rational.Compare(least, low) < 0 || e2 == api.OK && rational.Compare(greatest, high) > 0 {
			return false
		}
	}
	return true
}

// P43.6
func TestConsequences(t *testing.T) {
	r := rand.New(rand.NewSource(1))
	impossible, narrow := 0, 0
	for range 1500 {
		o := random(r)
		before := fmt.Sprint(o)
		a, e := Allocate(o)
		if e != api.OK || Verify(o, a) != api.OK {
			t.Fatalf("Allocate: %d, %d", e, Verify(o, a))
		}
		least := -1
		for _, c := range choices(o) {
			cost, _ := Cost(o, c)
			is := meets(o, c)
			if _, got, _ := Meets(o, c); got != is {
				t.Fatalf("Meets(%v, %v) = %t", o, c, got)
			}
			if is && (least < 0 || cost < least) {
				least = cost
			}
			checkPrefixes(t, o, c, cost, is)
		}
		if a.Possible != (least >= 0) || a.Possible && a.Cost != least {
			t.Fatalf("Allocate = %v, the least cost is %d", a, least)
		}
		if !a.Possible {
			impossible++
		} else if a.Cost > 0 {
			narrow++
		}
		checkLess(t, r, o, a)
		if fmt.Sprint(o) != before {
			t.Fatal("an argument is changed")
		}
	}
	if impossible < 50 || narrow < 50 {
		t.Errorf("%d are impossible, %d cost something", impossible, narrow)
	}
}

// checkPrefixes compares the prefixes of a choice with it.
func checkPrefixes(t *testing.T, o api.Offer, c []int, cost int, meets bool) {
	for n := range len(c) + 1 {
		if bound, _ := Bound(o, c[:n]); bound > cost || n == len(c) && bound != cost {
			t.Fatalf("Bound = %d, the cost is %d", bound, cost)
		}
		if _, _, is, _ := Fails(o, c[:n]); is && meets || n == len(c) && is == meets {
			t.Fatalf("Fails of %v, which meets: %t", c[:n], meets)
		}
	}
}

// checkLess asks for less: a further option, one requirement less, and a narrower option.
func checkLess(t *testing.T, r *rand.Rand, o api.Offer, a api.Allocation) {
	if !a.Possible {
		return
	}
	more := o
	more.Options = slices.Clone(o.Options)
	at := r.Intn(len(o.Options))
	more.Options[at] = append(slices.Clone(o.Options[at]), api.Option{Lower: -1, Upper: 1})
	if b, _ := Allocate(more); !b.Possible || b.Cost > a.Cost {
		t.Fatalf("a further option costs %d, not %d", b.Cost, a.Cost)
	}
	if n := len(o.Requirements); n > 0 {
		fewer := o
		fewer.Requirements = o.Requirements[1:]
		if b, _ := Allocate(fewer); !b.Possible || b.Cost > a.Cost {
			t.Fatalf("without a requirement the cost is %d, not %d", b.Cost, a.Cost)
		}
	}
	chosen := &more.Options[at][a.Choice[at]]
	chosen.Lower = chosen.Upper
	if _, is, _ := Meets(more, a.Choice); !is {
		t.Fatal("a narrower option does not meet what the wider one meets")
	}
}

// Full offers are searched in a short time.
func TestFullOffer(t *testing.T) {
	r := rand.New(rand.NewSource(1))
	o := many(12, 2)
	for i := range o.Options {
		o.Options[i] = []api.Option{{Lower: -10, Upper: 10, Cost: r.Intn(5)}, {Lower: -3, Upper: 3, Cost: 5 + r.Intn(9)}}
	}
	for i := range MaxRequirements {
		f := formed("0")
		for d := range o.Dimensions {
			f.Terms = append(f.Terms, api.Term{Dimension: d, Factor: api.Number(fmt.Sprint("1/", 2+r.Intn(9)))})
		}
		o.Requirements = append(o.Requirements, requirement(fmt.Sprint("r", i), f, "-15", "15"))
	}
	a, e := Allocate(o)
	if e != api.OK || !a.Possible || Verify(o, a) != api.OK {
		t.Errorf("Allocate = %v, %d", a, e)
	}
}
