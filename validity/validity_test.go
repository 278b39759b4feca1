package validity

import (
	"fmt"
	"math/rand"
	"slices"
	"testing"

	"dowel/api"
	"dowel/assembly"
	"dowel/revision"
	"dowel/stackup"
)

// formed returns a form with a constant and terms, given as dimension and factor in turn.
func formed(constant string, terms ...any) api.Form {
	f := api.Form{Constant: api.Number(constant)}
	for i := 0; i < len(terms); i += 2 {
		f.Terms = append(f.Terms, api.Term{Dimension: terms[i].(int), Factor: api.Number(terms[i+1].(string))})
	}
	return f
}

// part returns a part of cubes in a row, with a gap between them.
func part(name string, size, cubes int) api.Part {
	p := api.Part{Name: name, Density: 1}
	for k := range cubes {
		c := api.Cell{}
		for i := range 8 {
			c.Vertices = append(c.Vertices, api.Vector{i / 4 * size, i / 2 % 2 * size, i%2*size + 2*k*size})
		}
		p.Cells = append(p.Cells, c)
	}
	return p
}

func instance(name, part, x string) api.Instance {
	return api.Instance{Name: name, Part: part, Place: api.Placement{Turn: [4]int{1}, Shift: api.Point{api.Number(x), "0", "0"}}}
}

// sample has the instances a and b side by side, and c away from them, two dimensions, a constraint and requirements.
func sample() api.Product {
	return api.Product{
		Name:        "p",
		Assembly:    api.Assembly{Parts: []api.Part{part("q", 1, 1), part("r", 1, 2)}, Instances: []api.Instance{instance("a", "q", "0"), instance("b", "r", "1"), instance("c", "q", "5")}},
		Dimensions:  []api.Dimension{{Name: "x", Nominal: 10, Lower: -1, Upper: 1}, {Name: "y", Nominal: 4, Upper: 2}},
		Constraints: []api.Constraint{{Name: "k", Form: formed("-16", 0, "1", 1, "1")}},
		Requirements: []api.Requirement{
			{Name: "fit", Gap: api.Expr{Form: formed("0", 0, "1", 1, "-1")}, Low: "3", High: "9"},
			{Name: "bent", Gap: api.Expr{Op: api.OpAbs, Args: []api.Expr{{Form: formed("0", 0, "1")}}}},
		},
	}
}

func with(change func(p *api.Product)) api.Product {
	p := sample()
	change(&p)
	return p
}

func start(t *testing.T, p api.Product) revision.Revision {
	r, e := revision.New(p)
	if e != api.OK {
		t.Fatalf("New: %d", e)
	}
	return r
}

func apply(t *testing.T, r revision.Revision, l ...revision.Edit) revision.Revision {
	next, e := revision.Apply(r, l)
	if e != api.OK {
		t.Fatalf("Apply: %d", e)
	}
	return next
}

func put(at int, x revision.Item) revision.Edit {
	return revision.Edit{Op: revision.Put, At: at, Item: x}
}

func putInstance(at int, x api.Instance) revision.Edit {
	return put(at, revision.Item{Key: revision.Key{Kind: revision.Instance, Name: x.Name}, Instance: x})
}

func putDimension(at int, d api.Dimension) revision.Edit {
	return put(at, revision.Item{Key: revision.Key{Kind: revision.Dimension, Name: d.Name}, Dimension: d})
}

func putRequirement(at int, r api.Requirement) revision.Edit {
	return put(at, revision.Item{Key: revision.Key{Kind: revision.Requirement, Name: r.Name}, Requirement: r})
}

func putPart(at int, p api.Part) revision.Edit {
	return put(at, revision.Item{Key: revision.Key{Kind: revision.Part, Name: p.Name}, Part: p})
}

func drop(kind int, name string) revision.Edit {
	return revision.Edit{Op: revision.Drop, At: -1, Item: revision.Item{Key: revision.Key{Kind: kind, Name: name}}}
}

func lie(a, b string) Question { return Question{Lie, [2]string{a, b}} }

func gap(a, b string) Question { return Question{Gap, [2]string{a, b}} }

func worst(name string) Question { return Question{Worst, [2]string{name, ""}} }

func isZero(x Result) bool {
	return x.Question == Question{} && x.Status == 0 && len(x.Separations) == 0 && isZeroDistance(x.Distance) && isZeroReport(x.Report) && len(x.Versions) == 0
}

// P46.1
func TestCheckAndReads(t *testing.T) {
	for i, c := range []struct {
		p     api.Product
		q     Question
		want  api.Errno
		reads string
	}{
		{sample(), lie("a", "b"), 0, "[{1 q} {1 r} {2 a} {2 b}]"}, {sample(), gap("b", "a"), 0, "[{1 q} {1 r} {2 a} {2 b}]"}, {sample(), lie("c", "a"), 0, "[{1 q} {2 a} {2 c}]"}, {sample(), worst("fit"), 0, "[{3 } {3 x} {3 y} {4 } {4 k} {5 fit}]"}, {sample(), worst("bent"), 0, "[{3 } {3 x} {3 y} {4 } {4 k} {5 bent}]"},
		{with(func(p *api.Product) { p.Name = "" }), Question{Kind: 9}, api.ErrName, "[]"}, {with(func(p *api.Product) { p.Constraints[0].Form.Constant = "x" }), lie("a", "b"), api.ErrSyntax, "[]"}, {sample(), Question{}, api.ErrKind, "[]"}, {sample(), Question{4, [2]string{"a", "b"}}, api.ErrKind, "[]"},
		{sample(), lie("z", "z"), api.ErrUnknown, "[]"}, {sample(), gap("a", "fit"), api.ErrUnknown, "[]"}, {sample(), gap("a", ""), api.ErrUnknown, "[]"}, {sample(), lie("a", "a"), api.ErrConflict, "[]"}, {sample(), Question{Worst, [2]string{"x", "y"}}, api.ErrUnknown, "[]"}, {sample(), Question{Worst, [2]string{"fit", "fit"}}, api.ErrForm, "[]"},
	} {
		if e := Check(c.p, c.q); e != c.want {
			t.Errorf("%d: Check = %d", i, e)
		}
		if keys, e := Reads(c.p, c.q); fmt.Sprint(keys) != c.reads || e != c.want {
			t.Errorf("%d: Reads = %v, %d", i, keys, e)
		}
		r := revision.Revision{Number: 1, Product: c.p}
		if c.want == api.OK {
			continue
		}
		x, e1 := Ask(r, c.q)
		e2 := Confirm(r, Result{Question: c.q})
		y, fate, e3 := Update(r, Result{Question: c.q})
		l, fates, e4 := Refresh(r, []Result{{Question: c.q}})
		if !isZero(x) || !isZero(y) || fate != 0 || len(l)+len(fates) > 0 || Fresh(r, Result{Question: c.q}) || e1 != c.want || e2 != c.want || e3 != c.want || e4 != api.OK {
			t.Errorf("%d: %d, %d, %d, %d", i, e1, e2, e3, e4)
		}
	}
}

// P46.2
func TestAsk(t *testing.T) {
	r := start(t, sample())
	x, e := Ask(r, lie("a", "b"))
	if x.Status != api.Touching || len(x.Separations) != 2 || x.Separations[0].Kind != api.Touching || x.Separations[1].Kind != api.Apart || fmt.Sprint(x.Versions) != "[{{1 q} 1} {{1 r} 1} {{2 a} 1} {{2 b} 1}]" || e != api.OK {
		t.Errorf("Ask = %v, %d", x, e)
	}
	if x, e := Ask(r, lie("b", "c")); x.Status != api.Apart || e != api.OK {
		t.Errorf("Ask = %v, %d", x, e)
	}
	moved := apply(t, r, putInstance(-1, instance("b", "r", "1/2")))
	if x, e := Ask(moved, lie("b", "a")); x.Status != api.Meeting || x.Question != lie("b", "a") || e != api.OK {
		t.Errorf("Ask = %v, %d", x, e)
	}
	if x, e := Ask(r, gap("c", "b")); x.Distance.Value != "3" || len(x.Distance.Normals) != 2 || x.Status != 0 || len(x.Versions) != 4 || e != api.OK {
		t.Errorf("Ask = %v, %d", x, e)
	}
	x, e = Ask(r, worst("fit"))
	want, _ := stackup.Examine(stackup.Problem{Dimensions: sample().Dimensions, Constraints: sample().Constraints}, sample().Requirements[0])
	if fmt.Sprint(x.Report) != fmt.Sprint(want) || !want.Met || x.Status != 0 || len(x.Versions) != 6 || e != api.OK {
		t.Errorf("Ask = %v, %d", x, e)
	}
	if x, e := Ask(r, worst("bent")); !isZero(x) || e != api.ErrKind {
		t.Errorf("Ask = %v, %d", x, e)
	}
	impossible := start(t, with(func(p *api.Product) { p.Constraints[0].Form.Constant = "1" }))
	if x, e := Ask(impossible, worst("fit")); !isZero(x) || e != api.ErrInfeasible {
		t.Errorf("Ask = %v, %d", x, e)
	}
}

// P46.3
func TestFresh(t *testing.T) {
	r := start(t, sample())
	for i, c := range []struct {
		q     Question
		l     []revision.Edit
		fresh bool
	}{
		{lie("a", "b"), []revision.Edit{putInstance(3, instance("d", "q", "9"))}, true}, {lie("a", "b"), []revision.Edit{putInstance(-1, instance("c", "q", "9"))}, true}, {lie("a", "b"), []revision.Edit{putInstance(-1, instance("a", "q", "0"))}, false}, {gap("a", "c"), []revision.Edit{putPart(-1, part("r", 1, 2))}, true}, {gap("a", "b"), []revision.Edit{putPart(-1, part("r", 1, 2))}, false}, {lie("a", "b"), []revision.Edit{putDimension(0, api.Dimension{Name: "z"})}, true}, {lie("a", "b"), []revision.Edit{drop(revision.Instance, "b")}, false},
		{worst("fit"), []revision.Edit{putDimension(2, api.Dimension{Name: "z"})}, false}, {worst("fit"), []revision.Edit{putInstance(-1, instance("a", "q", "7"))}, true}, {worst("fit"), []revision.Edit{drop(revision.Constraint, "k")}, false}, {worst("fit"), []revision.Edit{drop(revision.Requirement, "bent")}, true}, {worst("fit"), []revision.Edit{putRequirement(-1, sample().Requirements[0])}, false}, {worst("fit"), []revision.Edit{drop(revision.Requirement, "fit")}, false},
	} {
		x, _ := Ask(r, c.q)
		next := apply(t, r, c.l...)
		if !Fresh(r, x) || Fresh(next, x) != c.fresh {
			t.Errorf("%d: Fresh = %t", i, Fresh(next, x))
		}
	}
	x, _ := Ask(r, lie("a", "b"))
	for i, l := range [][]revision.Version{nil, x.Versions[:3], append(slices.Clone(x.Versions), x.Versions[3]), {x.Versions[1], x.Versions[0], x.Versions[2], x.Versions[3]}} {
		y := x
		y.Versions = l
		if Fresh(r, y) {
			t.Errorf("%d: Fresh", i)
		}
	}
}

// P46.3
func TestConfirm(t *testing.T) {
	r := start(t, sample())
	meets := start(t, with(func(p *api.Product) { p.Assembly.Instances[1].Place.Shift[0] = "1/2" }))
	for i, c := range []struct {
		r      revision.Revision
		q      Question
		change func(x *Result)
		want   api.Errno
	}{
		{r, lie("a", "b"), func(x *Result) { x.Versions = nil }, api.OK}, {r, lie("a", "b"), func(x *Result) { x.Status = api.Apart }, api.ErrCertificate}, {r, lie("a", "b"), func(x *Result) { x.Separations = x.Separations[:1] }, api.ErrCertificate}, {r, lie("a", "b"), func(x *Result) { x.Separations = append(x.Separations, x.Separations[1]) }, api.ErrCertificate}, {r, lie("a", "b"), func(x *Result) { slices.Reverse(x.Separations) }, api.ErrCertificate}, {r, lie("a", "b"), func(x *Result) { x.Distance.A[0] = "0" }, api.ErrCertificate}, {r, lie("a", "b"), func(x *Result) { x.Report.Met = true }, api.ErrCertificate}, {r, lie("a", "b"), func(x *Result) { x.Question = lie("b", "a") }, api.ErrCertificate}, {r, lie("a", "b"), func(x *Result) { x.Question = lie("z", "a") }, api.ErrUnknown}, {r, lie("a", "b"), func(x *Result) { x.Question = gap("b", "a") }, api.ErrCertificate}, {meets, lie("a", "b"), func(x *Result) {}, api.OK},
		{r, gap("a", "c"), func(x *Result) {}, api.OK}, {r, gap("a", "c"), func(x *Result) { x.Distance.Value = "3" }, api.ErrCertificate}, {r, gap("a", "c"), func(x *Result) { x.Distance.Value = "8/2" }, api.ErrCertificate}, {r, gap("a", "c"), func(x *Result) { x.Status = 1 }, api.ErrCertificate}, {r, gap("a", "c"), func(x *Result) { x.Separations = make([]api.Separation, 1) }, api.ErrCertificate}, {r, gap("a", "c"), func(x *Result) { x.Report.Least.Cases = make([]api.Case, 1) }, api.ErrCertificate}, {r, gap("a", "c"), func(x *Result) { x.Report.Greatest.At = []api.Number{"0"} }, api.ErrCertificate},
		{r, worst("fit"), func(x *Result) {}, api.OK}, {r, worst("fit"), func(x *Result) { x.Report.Met = false }, api.ErrCertificate}, {r, worst("fit"), func(x *Result) { x.Report.Below = "1" }, api.ErrCertificate}, {r, worst("fit"), func(x *Result) { x.Report.Above = "" }, api.ErrCertificate}, {r, worst("fit"), func(x *Result) { x.Report.Least.Value = "4" }, api.ErrCertificate}, {r, worst("fit"), func(x *Result) { x.Report.Greatest.At[0] = "9" }, api.ErrCertificate}, {r, worst("fit"), func(x *Result) { x.Report.Least = x.Report.Greatest }, api.ErrCertificate}, {r, worst("fit"), func(x *Result) { x.Status = 1 }, api.ErrCertificate}, {r, worst("fit"), func(x *Result) { x.Distance.Normals = make([]api.Point, 1) }, api.ErrCertificate}, {r, worst("fit"), func(x *Result) { x.Separations = make([]api.Separation, 1) }, api.ErrCertificate}, {r, worst("fit"), func(x *Result) { x.Question = worst("bent") }, api.ErrKind},
	} {
		x, _ := Ask(c.r, c.q)
		c.change(&x)
		if e := Confirm(c.r, x); e != c.want {
			t.Errorf("%d: Confirm = %d", i, e)
		}
	}
}

// P46.3
func TestSame(t *testing.T) {
	report := func(met bool, least, greatest, below, above api.Number) Result {
		return Result{Question: worst("fit"), Report: stackup.Report{Met: met, Least: api.Worst{Value: least}, Greatest: api.Worst{Value: greatest}, Below: below, Above: above}}
	}
	for i, c := range []struct {
		a, b Result
		want bool
	}{
		{Result{Question: lie("a", "b"), Status: 1}, Result{Question: lie("a", "b"), Status: 1, Separations: make([]api.Separation, 2), Versions: make([]revision.Version, 1)}, true}, {Result{Question: lie("a", "b"), Status: 1}, Result{Question: lie("a", "b"), Status: 2}, false}, {Result{Question: lie("a", "b"), Status: 1}, Result{Question: lie("b", "a"), Status: 1}, false}, {Result{Question: lie("a", "b"), Status: 1}, Result{Question: gap("a", "b"), Status: 1}, false},
		{Result{Question: gap("a", "b"), Distance: api.Distance{Value: "1"}}, Result{Question: gap("a", "b"), Distance: api.Distance{Value: "1", Normals: make([]api.Point, 1)}}, true}, {Result{Question: gap("a", "b"), Distance: api.Distance{Value: "1"}}, Result{Question: gap("a", "b"), Distance: api.Distance{Value: "2"}}, false},
		{report(true, "1", "2", "3", "4"), report(true, "1", "2", "3", "4"), true}, {report(true, "1", "2", "3", "4"), report(false, "1", "2", "3", "4"), false}, {report(true, "1", "2", "3", "4"), report(true, "0", "2", "3", "4"), false}, {report(true, "1", "2", "3", "4"), report(true, "1", "0", "3", "4"), false}, {report(true, "1", "2", "3", "4"), report(true, "1", "2", "", "4"), false}, {report(true, "1", "2", "3", "4"), report(true, "1", "2", "3", "5"), false}, {Result{}, Result{}, true},
	} {
		if Same(c.a, c.b) != c.want || Same(c.b, c.a) != c.want {
			t.Errorf("%d: Same", i)
		}
	}
}

// P46.4, P46.5
func TestUpdateRefreshStale(t *testing.T) {
	r := start(t, sample())
	var l []Result
	for _, q := range []Question{lie("a", "c"), gap("a", "b"), worst("fit"), lie("a", "b"), gap("b", "c")} {
		x, e := Ask(r, q)
		if e != api.OK {
			t.Fatalf("Ask: %d", e)
		}
		l = append(l, x)
	}
	if Stale(r, l) != nil {
		t.Errorf("Stale = %v", Stale(r, l))
	}
	next := apply(t, r, putInstance(-1, instance("c", "q", "6")), putDimension(0, api.Dimension{Name: "z"}))
	if stale := Stale(next, l); !slices.Equal(stale, []int{0, 2, 4}) {
		t.Errorf("Stale = %v", stale)
	}
	updated, fates, e := Refresh(next, l)
	if !slices.Equal(fates, []int{Confirmed, Kept, Computed, Kept, Computed}) || e != api.OK {
		t.Errorf("Refresh = %v, %d", fates, e)
	}
	for i, x := range updated {
		y, fate, e := Update(next, l[i])
		if fate != fates[i] || e != api.OK || fmt.Sprint(x) != fmt.Sprint(y) || !Fresh(next, x) || Confirm(next, x) != api.OK {
			t.Errorf("%d: Update = %v, %d, %d", i, y, fate, e)
		}
	}
	if fmt.Sprint(updated[0].Separations) != fmt.Sprint(l[0].Separations) || updated[0].Versions[2].Number != 2 || fmt.Sprint(updated[1]) != fmt.Sprint(l[1]) || updated[4].Distance.Value != "4" {
		t.Errorf("Refresh = %v", updated)
	}
	// What cannot be asked any more is left out; what has no result is an error.
	less := apply(t, r, drop(revision.Instance, "c"), putRequirement(-1, api.Requirement{Name: "fit", Gap: sample().Requirements[1].Gap}))
	if updated, fates, e := Refresh(less, []Result{l[0], l[1], l[4], l[3]}); len(updated) != 2 || !slices.Equal(fates, []int{Kept, Kept}) || updated[1].Question != lie("a", "b") || e != api.OK {
		t.Errorf("Refresh = %v, %v, %d", updated, fates, e)
	}
	if stale := Stale(less, l); !slices.Equal(stale, []int{0, 2, 4}) {
		t.Errorf("Stale = %v", stale)
	}
	if updated, fates, e := Refresh(less, l); updated != nil || fates != nil || e != api.ErrKind {
		t.Errorf("Refresh = %v, %v, %d", updated, fates, e)
	}
	if x, fate, e := Update(less, l[2]); !isZero(x) || fate != 0 || e != api.ErrKind {
		t.Errorf("Update = %v, %d, %d", x, fate, e)
	}
	if x, fate, e := Update(less, l[0]); !isZero(x) || fate != 0 || e != api.ErrUnknown {
		t.Errorf("Update = %v, %d, %d", x, fate, e)
	}
}

// Results share no memory with those from which they come.
func TestMemory(t *testing.T) {
	r := start(t, sample())
	next := apply(t, r, putInstance(-1, instance("a", "q", "0")), putDimension(-1, sample().Dimensions[0]))
	for _, q := range []Question{lie("a", "b"), gap("a", "c"), worst("fit")} {
		x, _ := Ask(r, q)
		before := fmt.Sprint(x)
		for _, now := range []revision.Revision{r, next} {
			y, _, _ := Update(now, x)
			y.Versions[0].Number = 9
			for i := range y.Separations {
				y.Separations[i].Kind = 9
			}
			for i := range y.Distance.Normals {
				y.Distance.Normals[i][0] = "9"
			}
			for _, w := range []api.Worst{y.Report.Least, y.Report.Greatest} {
				for i := range w.At {
					w.At[i] = "9"
				}
				for i := range w.Cases {
					w.Cases[i].Duals[0] = "9"
					w.Cases[i].Duals = nil
				}
			}
		}
		if fmt.Sprint(x) != before {
			t.Errorf("memory is shared: %v", x)
		}
	}
}

// randomEdit returns an edit of the sample or of what has become of it.
func randomEdit(r *rand.Rand) revision.Edit {
	name := []string{"a", "b", "c"}[r.Intn(3)]
	switch r.Intn(6) {
	case 0, 1:
		return putInstance(-1, instance(name, []string{"q", "r"}[r.Intn(2)], fmt.Sprint(r.Intn(9)-4, "/3")))
	case 2:
		return putPart(-1, part([]string{"q", "r"}[r.Intn(2)], 1+r.Intn(2), 1+r.Intn(2)))
	case 3:
		return putDimension(-1, api.Dimension{Name: []string{"x", "y"}[r.Intn(2)], Nominal: r.Intn(9), Lower: -r.Intn(3), Upper: r.Intn(3)})
	case 4:
		return putRequirement(-1, api.Requirement{Name: "fit", Gap: api.Expr{Form: formed(fmt.Sprint(r.Intn(3)), 0, "1", 1, "-1")}, Low: "0"})
	}
	return putDimension(r.Intn(3), api.Dimension{Name: "z", Nominal: r.Intn(3)})
}

// P46.6
func TestConsequences(t *testing.T) {
	r := rand.New(rand.NewSource(1))
	questions := []Question{lie("a", "b"), lie("c", "a"), gap("b", "c"), gap("a", "b"), worst("fit")}
	seen := map[int]int{}
	for range 12 {
		now := start(t, sample())
		var l []Result
		for _, q := range questions {
			x, _ := Ask(now, q)
			l = append(l, x)
		}
		for range 12 {
			edit := randomEdit(r)
			next, e := revision.Apply(now, []revision.Edit{edit})
			if e != api.OK {
				continue
			}
			for i, x := range l {
				y, fate, e := Update(next, x)
				if e == api.ErrInfeasible {
					continue
				}
				seen[fate]++
				asked, e2 := Ask(next, x.Question)
				if e != api.OK || e2 != api.OK || !Same(y, asked) || Confirm(next, y) != api.OK || Confirm(next, asked) != api.OK || !Fresh(next, y) {
					t.Fatalf("Update = %v, %d, Ask = %v, %d", y, e, asked, e2)
				}
				checkKept(t, now, next, x, fate)
				l[i] = y
			}
			checkUndone(t, now, next, edit, l)
			now = next
		}
		if _, e := assembly.Place(now.Product.Assembly); e != api.OK {
			t.Fatal("the assembly is not valid")
		}
	}
	for fate := Kept; fate <= Computed; fate++ {
		if seen[fate] < 10 {
			t.Errorf("%d results have the fate %d", seen[fate], fate)
		}
	}
}

// checkKept compares what became of a fresh result with what has changed.
func checkKept(t *testing.T, now, next revision.Revision, x Result, fate int) {
	if !Fresh(now, x) {
		return
	}
	reads, _ := Reads(now.Product, x.Question)
	changed := slices.ContainsFunc(revision.Changed(now, next), func(k revision.Key) bool { return slices.Contains(reads, k) })
	if (fate == Kept) == changed {
		t.Fatalf("the result of %v has the fate %d", x.Question, fate)
	}
}

// checkUndone undoes an edit, and compares the answers with those before.
func checkUndone(t *testing.T, now, next revision.Revision, edit revision.Edit, l []Result) {
	inverse, _ := revision.Invert(now, []revision.Edit{edit})
	back := apply(t, next, inverse...)
	for _, x := range l {
		before, e := Ask(now, x.Question)
		y, _, e2 := Update(back, x)
		if e != e2 || e == api.OK && !Same(before, y) {
			t.Fatalf("undone, %v has the answer %v, %d, and had %v, %d", x.Question, y, e2, before, e)
		}
	}
}
