package plan

import (
	"fmt"
	"slices"
	"strings"
	"testing"

	"dowel/api"
)

func point(text string) api.Point {
	var p api.Point
	for i, word := range strings.Fields(text) {
		p[i] = api.Number(word)
	}
	return p
}

func kind(blocking int, directions ...string) api.Kind {
	k := api.Kind{Blocking: blocking}
	for _, d := range directions {
		k.Directions = append(k.Directions, point(d))
	}
	return k
}

func step(direction string, moved ...int) api.Step {
	return api.Step{Moved: moved, Direction: point(direction)}
}

func bounded(direction string, distance api.Number, moved ...int) api.Step {
	return api.Step{Moved: moved, Direction: point(direction), Distance: distance}
}

func split(direction string, whole, moved []int) api.Split {
	return api.Split{Whole: whole, Moved: moved, Direction: point(direction)}
}

func steps(k api.Kind, most int, l ...api.Step) api.Plan {
	return api.Plan{Kind: k, Most: most, Steps: l}
}

func splits(k api.Kind, most int, l ...api.Split) api.Plan {
	return api.Plan{Kind: k, Most: most, Splits: l}
}

// three takes three instances apart, four divides four.
func three() api.Plan {
	return steps(kind(api.Far, "0 0 1"), 1, step("0 0 1", 2), step("0 0 1", 0))
}

func four() api.Plan {
	return splits(kind(api.Local), 0, split("1 0 0", []int{0, 1, 2, 3}, []int{0, 1}), split("0 0 1", []int{0, 1}, []int{0}), split("0 1 0", []int{2, 3}, []int{3}))
}

// P25.1
func TestCheckDirectionKindSet(t *testing.T) {
	long := api.Number("1" + strings.Repeat("0", api.MaxNumber))
	for _, c := range []struct {
		d api.Point
		e api.Errno
	}{{point("1 0 0"), api.OK}, {point("-4 6 9"), api.OK}, {point("1/2 x 0"), api.ErrSyntax}, {point("1/2 2/4 0"), api.ErrForm}, {point("1/2 0 0"), api.ErrForm}, {point("0 0 0"), api.ErrZero}, {point("2 0 -4"), api.ErrForm}, {point("0 0 -2"), api.ErrForm}, {api.Point{"1", "0", long}, api.ErrLong}, {api.Point{}, api.ErrSyntax}, {point("0 1/0 0"), api.ErrZero}} {
		if e := CheckDirection(c.d); e != c.e {
			t.Errorf("CheckDirection(%.20s): %d, not %d", c.d, e, c.e)
		}
	}
	many := kind(api.Far)
	for i := range api.MaxDirections + 1 {
		many.Directions = append(many.Directions, point(fmt.Sprintf("1 %d 0", i)))
	}
	few := many
	few.Directions = few.Directions[:api.MaxDirections]
	for i, c := range []struct {
		k api.Kind
		e api.Errno
	}{{kind(api.Far), api.OK}, {kind(api.Local, "1 0 0", "-1 0 0"), api.OK}, {few, api.OK}, {kind(0, "x"), api.ErrKind}, {api.Kind{Blocking: 3, Directions: many.Directions}, api.ErrKind}, {many, api.ErrLimit}, {kind(api.Far, "1 0 0", "2 0 0", "1 0 0"), api.ErrForm}, {kind(api.Far, "1 0 0", "0 1 0", "1 0 0", "x"), api.ErrDuplicate}} {
		if e := CheckKind(c.k); e != c.e {
			t.Errorf("%d: CheckKind: %d, not %d", i, e, c.e)
		}
	}
	for _, c := range []struct {
		l []int
		n int
		e api.Errno
	}{{[]int{0, 2}, 3, api.OK}, {nil, 3, api.ErrEmpty}, {[]int{3}, 3, api.ErrRange}, {[]int{-1, -1}, 3, api.ErrRange}, {[]int{1, 0, 7}, 3, api.ErrOrder}, {[]int{1, 7, 0}, 3, api.ErrRange}, {[]int{1, 1}, 3, api.ErrOrder}, {[]int{0}, 0, api.ErrRange}, {[]int{999}, 1000, api.OK}} {
		if e := CheckSet(c.l, c.n); e != c.e {
			t.Errorf("CheckSet(%d, %d): %d, not %d", c.l, c.n, e, c.e)
		}
	}
}

// P25.2
func TestCheck(t *testing.T) {
	far, up := kind(api.Far), kind(api.Far, "0 0 1")
	all := []int{0, 1, 2, 3}
	for i, c := range []struct {
		p api.Plan
		n int
		e api.Errno
	}{
		{three(), 3, api.OK}, {four(), 4, api.OK}, {steps(far, 0), 1, api.OK}, {steps(far, 12), 12, api.OK}, {steps(far, 0, slices.Repeat([]api.Step{bounded("1 0 0", "1/2", 0)}, 64)...), 2, api.OK},
		{steps(kind(0), -1), 0, api.ErrRange}, {steps(kind(0), -1), 13, api.ErrRange}, {steps(kind(0), -1), 3, api.ErrKind}, {steps(far, -1), 3, api.ErrRange}, {steps(far, 13), 3, api.ErrRange}, {api.Plan{Kind: far, Steps: make([]api.Step, 65), Splits: make([]api.Split, 1)}, 3, api.ErrConflict}, {steps(far, 0, make([]api.Step, 65)...), 3, api.ErrLimit}, {splits(far, 0, make([]api.Split, 13)...), 3, api.ErrLimit},
		{steps(far, 1, step("x")), 3, api.ErrEmpty}, {steps(far, 1, step("x", 3)), 3, api.ErrRange}, {steps(far, 1, step("x", 1, 1)), 3, api.ErrOrder}, {steps(far, 1, step("1 0 0", 1), step("x", 0, 1, 2)), 3, api.ErrNotFound}, {steps(far, 1, step("x", 0, 1, 2)), 3, api.ErrConflict}, {steps(far, 1, step("1 0 0", 1), step("x", 0, 2)), 3, api.ErrConflict}, {steps(far, 1, step("x", 0, 1)), 3, api.ErrLimit}, {steps(far, 2, step("1 0 0", 0, 1)), 3, api.OK}, {steps(up, 1, step("x", 0)), 3, api.ErrSyntax}, {steps(far, 1, step("0 0 0", 0)), 3, api.ErrZero}, {steps(up, 1, step("0 0 -1", 0)), 3, api.ErrUnknown}, {steps(up, 1, bounded("0 0 -1", "x", 0)), 3, api.ErrUnknown},
		{steps(far, 1, bounded("1 0 0", "x", 0)), 3, api.ErrSyntax}, {steps(far, 1, bounded("1 0 0", "2/4", 0)), 3, api.ErrForm}, {steps(far, 1, bounded("1 0 0", "0", 0)), 3, api.ErrRange}, {steps(far, 1, bounded("1 0 0", "-1/2", 0)), 3, api.ErrRange}, {steps(far, 1, bounded("1 0 0", api.Number(strings.Repeat("1", 401)), 0)), 3, api.ErrLong}, {steps(far, 0, bounded("1 0 0", "1", 0, 1, 2)), 3, api.ErrConflict}, {steps(far, 0, bounded("1 0 0", "1", 0), step("1 0 0", 0)), 3, api.OK}, {steps(far, 0, step("1 0 0", 0), bounded("1 0 0", "1", 0)), 3, api.ErrNotFound},
		{splits(far, 1, split("x", nil, nil)), 4, api.ErrEmpty}, {splits(far, 1, split("x", []int{0, 4}, nil)), 4, api.ErrRange}, {splits(far, 1, split("x", []int{0, 1}, nil)), 4, api.ErrEmpty}, {splits(far, 1, split("x", []int{0, 1}, []int{1, 0})), 4, api.ErrOrder}, {splits(far, 1, split("x", []int{0, 1}, []int{2})), 4, api.ErrNotFound}, {splits(far, 1, split("x", all, all)), 4, api.ErrConflict}, {splits(far, 1, split("x", all, []int{0, 1})), 4, api.ErrLimit}, {splits(far, 2, split("x", all, []int{0, 1})), 4, api.ErrSyntax}, {splits(up, 2, split("1 0 0", all, []int{0, 1})), 4, api.ErrUnknown},
		{splits(far, 0, split("1 0 0", all, []int{0, 1}), split("1 0 0", []int{0, 1}, []int{2})), 4, api.ErrConflict}, {splits(far, 0, split("1 0 0", all, []int{0, 1}), split("1 0 0", []int{0, 2}, []int{2})), 4, api.ErrNotFound}, {splits(far, 0, split("1 0 0", all, []int{0, 1}), split("1 0 0", all, []int{2})), 4, api.ErrNotFound}, {splits(far, 0, split("1 0 0", all, []int{0}), split("1 0 0", []int{0}, []int{0})), 4, api.ErrNotFound}, {splits(far, 0, split("1 0 0", all, []int{0}), split("1 0 0", []int{1, 2, 3}, []int{1, 3}), split("1 0 0", []int{1, 3}, []int{3})), 4, api.OK}, {splits(far, 0, split("1 0 0", []int{0}, []int{0})), 1, api.ErrConflict},
	} {
		if e := Check(c.p, c.n); e != c.e {
			t.Errorf("%d: Check: %d, not %d", i, e, c.e)
		}
		if c.e == api.OK {
			continue
		}
		is, e1 := Complete(c.p, c.n)
		l, e2 := Left(c.p, c.n, -1)
		h, e3 := Height(c.p, c.n)
		j, e4 := Assemble(c.p, c.n)
		s, e5 := Text(c.p, c.n)
		if e1 != c.e || e2 != c.e || e3 != c.e || e4 != c.e || e5 != c.e || is || l != nil || h != 0 || j != nil || s != "" {
			t.Errorf("%d: %d, %d, %d, %d, %d", i, e1, e2, e3, e4, e5)
		}
	}
}

// P25.3
func TestCompleteLeftRestHeight(t *testing.T) {
	far := kind(api.Far)
	part := four()
	part.Splits = part.Splits[:2]
	for i, c := range []struct {
		p      api.Plan
		n      int
		want   bool
		height int
	}{
		{three(), 3, true, 0}, {three(), 4, false, 0}, {steps(far, 0), 1, true, 0}, {steps(far, 0), 2, false, 0}, {steps(far, 0, bounded("1 0 0", "5", 0)), 2, false, 0}, {steps(far, 0, step("1 0 0", 0, 2)), 3, true, 0}, {four(), 4, true, 2}, {part, 4, false, 2}, {splits(far, 0, split("1 0 0", []int{0, 1}, []int{1})), 2, true, 1}, {splits(far, 0, split("1 0 0", []int{0, 1, 2, 3}, []int{1}), split("1 0 0", []int{0, 2, 3}, []int{0}), split("1 0 0", []int{2, 3}, []int{2})), 4, true, 3},
	} {
		if is, e := Complete(c.p, c.n); is != c.want || e != api.OK {
			t.Errorf("%d: Complete = %t, %d", i, is, e)
		}
		if h, e := Height(c.p, c.n); h != c.height || e != api.OK {
			t.Errorf("%d: Height = %d, %d", i, h, e)
		}
	}
	p := steps(far, 0, step("1 0 0", 1), bounded("1 0 0", "2", 0, 3), step("1 0 0", 0, 2))
	for i, want := range [][]int{{0, 1, 2, 3}, {0, 2, 3}, {0, 2, 3}, {3}} {
		if l, e := Left(p, 4, i); !slices.Equal(l, want) || e != api.OK {
			t.Errorf("Left(%d) = %d, %d", i, l, e)
		}
	}
	for _, i := range []int{-1, 4} {
		if l, e := Left(p, 4, i); l != nil || e != api.ErrRange {
			t.Errorf("Left(%d): %d", i, e)
		}
	}
	if l, e := Left(four(), 4, 0); !slices.Equal(l, []int{0, 1, 2, 3}) || e != api.OK {
		t.Errorf("Left = %d, %d", l, e)
	}
	if _, e := Left(four(), 4, 1); e != api.ErrRange {
		t.Errorf("Left: %d", e)
	}
	if l := Rest(split("", []int{1, 4, 6, 9}, []int{4, 9})); !slices.Equal(l, []int{1, 6}) {
		t.Errorf("Rest = %d", l)
	}
}

// P25.4
func TestAssembleAndRename(t *testing.T) {
	j, e := Assemble(three(), 3)
	want := []Join{{[]int{1}, []int{0}, point("0 0 -1"), ""}, {[]int{0, 1}, []int{2}, point("0 0 -1"), ""}}
	if fmt.Sprint(j) != fmt.Sprint(want) || e != api.OK {
		t.Errorf("Assemble = %v, %d", j, e)
	}
	j, e = Assemble(four(), 4)
	want = []Join{{[]int{2}, []int{3}, point("0 -1 0"), ""}, {[]int{1}, []int{0}, point("0 0 -1"), ""}, {[]int{2, 3}, []int{0, 1}, point("-1 0 0"), ""}}
	if fmt.Sprint(j) != fmt.Sprint(want) || e != api.OK {
		t.Errorf("Assemble = %v, %d", j, e)
	}
	j, e = Assemble(steps(kind(api.Far), 0, step("1 0 0", 3), bounded("1 -2 3", "5/2", 1)), 4)
	want = []Join{{[]int{0, 2}, []int{1}, point("-1 2 -3"), "5/2"}, {[]int{0, 1, 2}, []int{3}, point("-1 0 0"), ""}}
	if fmt.Sprint(j) != fmt.Sprint(want) || e != api.OK {
		t.Errorf("Assemble = %v, %d", j, e)
	}
	p, e := Rename(four(), []int{3, 1, 0, 2})
	renamed := splits(kind(api.Local), 0, split("1 0 0", []int{0, 1, 2, 3}, []int{1, 3}), split("0 0 1", []int{1, 3}, []int{3}), split("0 1 0", []int{0, 2}, []int{2}))
	if !Equal(p, renamed) || e != api.OK {
		t.Errorf("Rename = %v, %d", p, e)
	}
	if back, e := Rename(p, []int{2, 1, 3, 0}); !Equal(back, four()) || e != api.OK {
		t.Errorf("Rename = %v, %d", back, e)
	}
	p, e = Rename(three(), []int{1, 2, 0})
	if want := steps(kind(api.Far, "0 0 1"), 1, step("0 0 1", 0), step("0 0 1", 1)); !Equal(p, want) || e != api.OK {
		t.Errorf("Rename = %v, %d", p, e)
	}
	for i, c := range []struct {
		p  api.Plan
		to []int
		e  api.Errno
	}{{api.Plan{}, nil, api.ErrRange}, {api.Plan{}, make([]int, 13), api.ErrRange}, {api.Plan{}, []int{5}, api.ErrKind}, {three(), []int{0, 1}, api.ErrRange}, {three(), []int{0, 1, 1}, api.ErrOrder}, {three(), []int{0, 1, 3}, api.ErrOrder}, {three(), []int{0, 1, -1}, api.ErrOrder}} {
		if p, e := Rename(c.p, c.to); !Equal(p, api.Plan{}) || e != c.e {
			t.Errorf("%d: Rename: %d, not %d", i, e, c.e)
		}
	}
}

// P25.5
func TestText(t *testing.T) {
	for i, c := range []struct {
		p    api.Plan
		n    int
		text string
	}{
		{three(), 3, "plan far most 1\nkind 0 0 1\nmove 2 along 0 0 1\nmove 0 along 0 0 1\n"}, {four(), 4, "plan local most 0\nsplit 0,1,2,3 moving 0,1 along 1 0 0\nsplit 0,1 moving 0 along 0 0 1\nsplit 2,3 moving 3 along 0 1 0\n"}, {steps(kind(api.Far), 12), 1, "plan far most 12\n"}, {steps(kind(api.Far, "1 0 0", "0 -1 2"), 0, bounded("0 -1 2", "5/2", 0, 10)), 12, "plan far most 0\nkind 1 0 0\nkind 0 -1 2\nmove 0,10 along 0 -1 2 by 5/2\n"},
	} {
		s, e := Text(c.p, c.n)
		if s != c.text || e != api.OK {
			t.Errorf("%d: Text = %q, %d", i, s, e)
		}
		if p, line, e := Parse(c.text, c.n); !Equal(p, c.p) || line != 0 || e != api.OK {
			t.Errorf("%d: Parse = %v, %d, %d", i, p, line, e)
		}
	}
}

// P25.5
func TestParse(t *testing.T) {
	for _, c := range []struct {
		text string
		line int
		e    api.Errno
	}{
		{strings.Repeat("x", api.MaxBytes+1), 0, api.ErrLong}, {strings.Repeat("\n", api.MaxBytes), 1, api.ErrSyntax}, {"", 1, api.ErrEmpty}, {"\n", 1, api.ErrSyntax},
		{"plan far most 1", 1, api.ErrSyntax}, {"plan far most 1 \n", 1, api.ErrSyntax}, {" plan far most 1\n", 1, api.ErrSyntax}, {"plan  far most 1\n", 1, api.ErrSyntax}, {"plan near most 1\n", 1, api.ErrSyntax}, {"plan far most 01\n", 1, api.ErrSyntax}, {"plan far most -1\n", 1, api.ErrSyntax}, {"plan far most 1234567\n", 1, api.ErrSyntax}, {"plan far most\n", 1, api.ErrSyntax}, {"plan far least 1\n", 1, api.ErrSyntax}, {"kind 1 0 0\n", 1, api.ErrSyntax},
		{"plan far most 1\nplan far most 1\n", 2, api.ErrSyntax}, {"plan far most 1\n\n", 2, api.ErrSyntax}, {"plan far most 1\nkind 1 0\n", 2, api.ErrSyntax}, {"plan far most 1\nkind 1 0 0 0\n", 2, api.ErrSyntax}, {"plan far most 1\nkinds 1 0 0\n", 2, api.ErrSyntax}, {"plan far most 1\nmove 0 along 1 0 0\nkind 1 0 0\n", 3, api.ErrSyntax}, {"plan far most 1\nmove 0 along 1 0 0\nsplit 0,1 moving 0 along 1 0 0\n", 3, api.ErrSyntax}, {"plan far most 1\nsplit 0,1,2 moving 0 along 1 0 0\nmove 0 along 1 0 0\n", 3, api.ErrSyntax}, {"plan far most 1\nsplit 0,1,2 moving 0 along 1 0 0\nkind 1 0 0\n", 3, api.ErrSyntax},
		{"plan far most 1\nmove 0, along 1 0 0\n", 2, api.ErrSyntax}, {"plan far most 1\nmove ,0 along 1 0 0\n", 2, api.ErrSyntax}, {"plan far most 1\nmove 00 along 1 0 0\n", 2, api.ErrSyntax}, {"plan far most 1\nmove 0 along 1 0\n", 2, api.ErrSyntax}, {"plan far most 1\nmove 0 by 1 0 0\n", 2, api.ErrSyntax}, {"plan far most 1\nmove 0 along 1 0 0 by\n", 2, api.ErrSyntax}, {"plan far most 1\nmove 0 along 1 0 0 to 5\n", 2, api.ErrSyntax}, {"plan far most 1\nmove 0 along 1 0 0 5\n", 2, api.ErrSyntax}, {"plan far most 1\nsplit 0,1,2 moved 0 along 1 0 0\n", 2, api.ErrSyntax}, {"plan far most 1\nsplit 0,1,2 moving 0 by 1 0 0\n", 2, api.ErrSyntax}, {"plan far most 1\nsplit 0,1,2 moving x along 1 0 0\n", 2, api.ErrSyntax}, {"plan far most 1\nsplit 0,1,2 moving 0 along 1 0 0 0\n", 2, api.ErrSyntax}, {"plan far most 1\nmove 0 along 1 0 0", 2, api.ErrSyntax}, {"plan far most 1\nmove 0 along 1 0 0\r\n", 0, api.ErrSyntax},
		// What has the right form, but is no plan.
		{"plan far most 13\n", 0, api.ErrRange}, {"plan far most 999999\n", 0, api.ErrRange}, {"plan far most 1\nkind 2 0 0\n", 0, api.ErrForm}, {"plan far most 1\nkind ? 0 0\n", 0, api.ErrSyntax}, {"plan far most 1\nmove 3 along 1 0 0\n", 0, api.ErrRange}, {"plan far most 1\nmove 123456 along 1 0 0\n", 0, api.ErrRange}, {"plan far most 1\nmove 1,0 along 1 0 0\n", 0, api.ErrOrder}, {"plan far most 1\nmove 0 along 1 0 0 by -5\n", 0, api.ErrRange}, {"plan far most 1\nmove 0 along 1 0 0 by 2/4\n", 0, api.ErrForm}, {"plan far most 1\nsplit 0,1 moving 0 along 1 0 0\n", 0, api.ErrNotFound},
	} {
		p, line, e := Parse(c.text, 3)
		if line != c.line || e != c.e || !Equal(p, api.Plan{}) {
			t.Errorf("Parse(%.50q) = %d, %d, not %d, %d", c.text, line, e, c.line, c.e)
		}
	}
	if p, line, e := Parse("plan local most 2\nkind 1 0 0\n", 13); !Equal(p, api.Plan{}) || line != 0 || e != api.ErrRange {
		t.Errorf("Parse: %d, %d", line, e)
	}
}

// P25.6
func TestEqual(t *testing.T) {
	for i, f := range []func(*api.Plan){
		func(p *api.Plan) { p.Kind.Blocking = api.Local }, func(p *api.Plan) { p.Kind.Directions = nil }, func(p *api.Plan) { p.Kind.Directions[0][0] = "1" }, func(p *api.Plan) { p.Most = 2 }, func(p *api.Plan) { p.Steps = p.Steps[1:] }, func(p *api.Plan) { p.Steps[0].Moved = []int{1} }, func(p *api.Plan) { p.Steps[0].Direction[1] = "5" }, func(p *api.Plan) { p.Steps[1].Distance = "5" }, func(p *api.Plan) { p.Splits = four().Splits },
	} {
		p := three()
		f(&p)
		if Equal(p, three()) || Equal(three(), p) {
			t.Errorf("%d: Equal", i)
		}
	}
	for i, f := range []func(*api.Plan){func(p *api.Plan) { p.Splits[0].Whole = []int{0} }, func(p *api.Plan) { p.Splits[1].Moved = nil }, func(p *api.Plan) { p.Splits[1].Direction[0] = "9" }} {
		p := four()
		f(&p)
		if Equal(p, four()) {
			t.Errorf("%d: Equal of splits", i)
		}
	}
	if !Equal(three(), three()) || !Equal(four(), four()) || !Equal(api.Plan{}, api.Plan{Kind: api.Kind{Directions: []api.Point{}}, Steps: []api.Step{}, Splits: []api.Split{}}) {
		t.Error("Equal")
	}
}

// P25.7
func TestConsequences(t *testing.T) {
	j, _ := Assemble(four(), 4)
	if len(j) != 3 {
		t.Errorf("%d joins", len(j))
	}
	if len(j[0].Base) != 1 || len(j[0].Added) != 1 || len(j[2].Base)+len(j[2].Added) != 4 {
		t.Errorf("Assemble = %v", j)
	}
	p, _ := Rename(four(), []int{1, 3, 0, 2})
	if is, e := Complete(p, 4); !is || e != api.OK {
		t.Errorf("Complete = %t, %d", is, e)
	}
}

// Results share no memory with arguments.
func TestMemory(t *testing.T) {
	p := three()
	q, _ := Rename(p, []int{0, 1, 2})
	q.Kind.Directions[0][0], q.Steps[0].Moved[0] = "9", 9
	j, _ := Assemble(p, 3)
	j[0].Added[0] = 9
	d := four()
	k, _ := Assemble(d, 4)
	k[0].Added[0] = 9
	if !Equal(p, three()) || !Equal(d, four()) {
		t.Error("an argument has changed")
	}
}
