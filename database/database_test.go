package database

import (
	"fmt"
	"math/rand"
	"slices"
	"strings"
	"testing"

	"dowel/api"
	"dowel/disk"
	"dowel/journal"
	"dowel/revision"
)

func newDisk(t *testing.T, capacity int) *disk.Disk {
	d, e := disk.New(capacity)
	if e != api.OK {
		t.Fatalf("New: %d", e)
	}
	return d
}

func open(t *testing.T, d *disk.Disk) *Database {
	t.Helper()
	b, e := Open(d, "d")
	if e != api.OK {
		t.Fatalf("Open: %d", e)
	}
	return b
}

func must(t *testing.T, l ...api.Errno) {
	t.Helper()
	for i, e := range l {
		if e != api.OK {
			t.Fatalf("%d: error %d", i, e)
		}
	}
}

func cube(name string) api.Part {
	c := api.Cell{}
	for i := range 8 {
		c.Vertices = append(c.Vertices, api.Vector{i / 4, i / 2 % 2, -(i % 2)})
	}
	slices.SortFunc(c.Vertices, func(a, b api.Vector) int { return slices.Compare(a[:], b[:]) })
	return api.Part{Name: name, Density: 1, Cells: []api.Cell{c}}
}

// sample has something of each kind.
func sample(name string) api.Product {
	form := api.Form{Constant: "-1/2", Terms: []api.Term{{Dimension: 0, Factor: "2"}, {Dimension: 1, Factor: "-1/3"}}}
	return api.Product{
		Name:         name,
		Assembly:     api.Assembly{Parts: []api.Part{cube("q")}, Instances: []api.Instance{{Name: "i", Part: "q", Place: api.Placement{Turn: [4]int{1, 0, -2, 0}, Shift: api.Point{"1", "-2/3", "0"}}}}},
		Dimensions:   []api.Dimension{{Name: "a", Nominal: -10, Lower: -1000000, Upper: 300}, {Name: "b", Nominal: 4}},
		Constraints:  []api.Constraint{{Name: "k", Form: form}},
		Requirements: []api.Requirement{{Name: "fit", Gap: api.Expr{Op: api.OpMin, Args: []api.Expr{{Form: form}, {Op: api.OpScale, Factor: "-7", Args: []api.Expr{{Form: form}}}}}, Low: "-5"}},
	}
}

func key(kind int, name string) revision.Key { return revision.Key{Kind: kind, Name: name} }

func putDimension(at int, d api.Dimension) revision.Edit {
	return revision.Edit{Op: revision.Put, At: at, Item: revision.Item{Key: key(revision.Dimension, d.Name), Dimension: d}}
}

func drop(kind int, name string) revision.Edit {
	return revision.Edit{Op: revision.Drop, At: -1, Item: revision.Item{Key: key(kind, name)}}
}

// edits has an edit of each kind, and removes an item.
func edits() []revision.Edit {
	p := sample("p")
	p.Assembly.Instances[0].Place.Shift[0] = "9"
	return []revision.Edit{
		{Op: revision.Put, At: 1, Item: revision.Item{Key: key(revision.Part, "r"), Part: cube("r")}},
		{Op: revision.Put, At: -1, Item: revision.Item{Key: key(revision.Instance, "i"), Instance: p.Assembly.Instances[0]}},
		putDimension(0, api.Dimension{Name: "new", Upper: 5}),
		{Op: revision.Put, At: 0, Item: revision.Item{Key: key(revision.Constraint, "m"), Constraint: api.Constraint{Name: "m", Form: p.Constraints[0].Form}}},
		{Op: revision.Put, At: 1, Item: revision.Item{Key: key(revision.Requirement, "loose"), Requirement: api.Requirement{Name: "loose", Gap: p.Requirements[0].Gap, High: "7"}}},
		drop(revision.Constraint, "k"),
	}
}

// state returns all that a database has.
func state(b *Database) string {
	var l []string
	for _, name := range b.Products() {
		last, _ := b.Last(name)
		tags, _ := b.Tags(name)
		l = append(l, fmt.Sprint(name, last, tags))
		for number := range last {
			r, _ := b.At(name, number+1)
			results, _ := b.Results(name, number+1)
			stale, _ := b.Stale(name, number+1)
			l = append(l, fmt.Sprint(r, results, stale))
		}
	}
	return strings.Join(l, "\n")
}

// P53.1
func TestOpen(t *testing.T) {
	down := newDisk(t, 100)
	down.Crash()
	for i, c := range []struct {
		d    *disk.Disk
		name string
		want api.Errno
	}{{nil, "d", api.ErrArgument}, {newDisk(t, 100), "?", api.ErrName}, {down, "d", api.ErrState}, {newDisk(t, 100), "d", api.OK}} {
		if b, e := Open(c.d, c.name); e != c.want || (b == nil) != (e != api.OK) {
			t.Errorf("%d: Open: %d", i, e)
		}
	}
	d := newDisk(t, 100000)
	must(t, d.Limit(0))
	b := open(t, d)
	if len(b.Products()) != 0 || state(b) != "" {
		t.Errorf("the database has %s", state(b))
	}
	must(t, d.Limit(-1), b.Create(sample("p")), b.Create(sample("other")), b.Mark("p", "first", 1), b.Keep("p", "fit", "text", []revision.Key{key(3, "a")}))
	if n, e := b.Edit("p", 1, edits()); n != 2 || e != api.OK {
		t.Errorf("Edit: %d, %d", n, e)
	}
	must(t, d.Limit(0))
	again := open(t, d)
	if state(again) != state(b) || !slices.Equal(again.Products(), []string{"p", "other"}) {
		t.Errorf("the database has %s, not %s", state(again), state(b))
	}
	if other, e := Open(d, "e"); e != api.OK || len(other.Products()) != 0 {
		t.Errorf("Open: %d", e)
	}
}

// P53.2
func TestCreateAndEdit(t *testing.T) {
	b := open(t, newDisk(t, 1<<20))
	bad := sample("p")
	bad.Dimensions[0].Name = ""
	for i, c := range []struct {
		p    api.Product
		want api.Errno
	}{{sample("p"), api.OK}, {bad, api.ErrName}, {sample("P"), api.ErrName}, {sample("p"), api.ErrDuplicate}, {api.Product{Name: "p"}, api.ErrDuplicate}} {
		if e := b.Create(c.p); e != c.want {
			t.Errorf("%d: Create = %d", i, e)
		}
	}
	first, _ := revision.New(sample("p"))
	if r, e := b.At("p", 1); fmt.Sprint(r) != fmt.Sprint(first) || e != api.OK {
		t.Errorf("At = %v, %d", r, e)
	}
	next, _ := revision.Apply(first, edits())
	for i, c := range []struct {
		product string
		number  int
		l       []revision.Edit
		n       int
		want    api.Errno
	}{{"x", 1, edits(), 0, api.ErrNotFound}, {"p", 0, edits(), 0, api.ErrVersion}, {"p", 2, nil, 0, api.ErrVersion}, {"p", 1, nil, 0, api.ErrEmpty}, {"p", 1, []revision.Edit{drop(3, "z")}, 0, api.ErrNotFound}, {"p", 1, edits(), 2, 0}, {"p", 1, edits(), 0, api.ErrVersion}, {"p", 2, []revision.Edit{drop(3, "a")}, 0, api.ErrConflict}, {"p", 2, []revision.Edit{putDimension(-1, api.Dimension{Name: "b"})}, 3, 0}} {
		if n, e := b.Edit(c.product, c.number, c.l); n != c.n || e != c.want {
			t.Errorf("%d: Edit = %d, %d", i, n, e)
		}
	}
	if r, e := b.At("p", 2); fmt.Sprint(r) != fmt.Sprint(next) || e != api.OK {
		t.Errorf("At = %v, %d", r, e)
	}
	if r, e := b.At("p", 1); fmt.Sprint(r) != fmt.Sprint(first) || e != api.OK {
		t.Errorf("At = %v, %d", r, e)
	}
	for i := range MaxProducts - 1 {
		must(t, b.Create(api.Product{Name: fmt.Sprint("p", i)}))
	}
	if e := b.Create(api.Product{Name: "more"}); e != api.ErrLimit || len(b.Products()) != MaxProducts {
		t.Errorf("Create = %d", e)
	}
	if e := b.Create(api.Product{Name: "p"}); e != api.ErrDuplicate {
		t.Errorf("Create = %d", e)
	}
}

// P53.2: the greatest number of revisions.
func TestManyRevisions(t *testing.T) {
	d := newDisk(t, 1<<20)
	b := open(t, d)
	must(t, b.Create(api.Product{Name: "p", Dimensions: []api.Dimension{{Name: "a"}}}))
	for i := 1; i < MaxRevisions; i++ {
		if n, e := b.Edit("p", i, []revision.Edit{putDimension(-1, api.Dimension{Name: "a", Nominal: i})}); n != i+1 || e != api.OK {
			t.Fatalf("Edit = %d, %d", n, e)
		}
	}
	if n, e := b.Edit("p", MaxRevisions, nil); n != 0 || e != api.ErrLimit {
		t.Errorf("Edit = %d, %d", n, e)
	}
	if n, e := b.Edit("p", 1, nil); n != 0 || e != api.ErrVersion {
		t.Errorf("Edit = %d, %d", n, e)
	}
	if n, e := open(t, d).Last("p"); n != MaxRevisions || e != api.OK {
		t.Errorf("Last = %d, %d", n, e)
	}
}

// P53.3, P53.5
func TestMarkAndKeep(t *testing.T) {
	b := open(t, newDisk(t, 1<<20))
	must(t, b.Create(sample("p")), b.Create(sample("other")))
	b.Edit("p", 1, []revision.Edit{putDimension(-1, api.Dimension{Name: "b"})})
	for i, c := range []struct {
		product, tag string
		number       int
		want         api.Errno
	}{{"x", "", 1, api.ErrNotFound}, {"p", "a b", 9, api.ErrName}, {"p", "", 1, api.ErrName}, {"p", "t", 0, api.ErrRange}, {"p", "t", 3, api.ErrRange}, {"p", "released", 2, 0}, {"p", "first", 1, 0}, {"p", "again", 2, 0}, {"p", "first", 2, api.ErrDuplicate}, {"p", "first", 3, api.ErrRange}, {"other", "first", 1, 0}} {
		if e := b.Mark(c.product, c.tag, c.number); e != c.want {
			t.Errorf("%d: Mark = %d", i, e)
		}
	}
	if l, e := b.Tags("p"); fmt.Sprint(l) != "[{released 2} {first 1} {again 2}]" || e != api.OK {
		t.Errorf("Tags = %v, %d", l, e)
	}
	for tag, want := range map[string]int{"released": 2, "first": 1, "again": 2, "": 0, "x": 0} {
		n, e := b.Find("p", tag)
		if n != want || (e == api.OK) != (want > 0) || want == 0 && e != api.ErrUnknown {
			t.Errorf("Find = %d, %d", n, e)
		}
	}
	for i := range MaxTags - 3 {
		must(t, b.Mark("p", fmt.Sprint("t", i), 1))
	}
	if e := b.Mark("p", "more", 1); e != api.ErrLimit {
		t.Errorf("Mark = %d", e)
	}
	if e := b.Mark("p", "first", 1); e != api.ErrDuplicate {
		t.Errorf("Mark = %d", e)
	}
	long := strings.Repeat("x", MaxResult+1)
	for i, c := range []struct {
		product, name, text string
		reads               []revision.Key
		want                api.Errno
	}{{"x", "", long, nil, api.ErrNotFound}, {"p", "", long, nil, api.ErrName}, {"p", "r", long, make([]revision.Key, 65), api.ErrLong}, {"p", "r", "", make([]revision.Key, 65), api.ErrLimit}, {"p", "r", "", []revision.Key{key(3, "z")}, api.ErrNotFound}, {"p", "r", long[:MaxResult], slices.Repeat([]revision.Key{key(3, "a")}, 64), 0}} {
		if e := b.Keep(c.product, c.name, c.text, c.reads); e != c.want {
			t.Errorf("%d: Keep = %d", i, e)
		}
	}
	for i := range MaxResults - 1 {
		must(t, b.Keep("p", fmt.Sprint("k", i), "", nil))
	}
	if e := b.Keep("p", "more", "", nil); e != api.ErrLimit {
		t.Errorf("Keep = %d", e)
	}
	if e := b.Keep("p", "more", "", []revision.Key{key(9, "")}); e != api.ErrNotFound {
		t.Errorf("Keep = %d", e)
	}
	must(t, b.Keep("p", "k5", "new", nil), b.Keep("other", "r", "", nil))
}

// P53.5
func TestResults(t *testing.T) {
	d := newDisk(t, 1<<20)
	b := open(t, d)
	must(t, b.Create(sample("p")), b.Keep("p", "z", "about a", []revision.Key{key(3, "a")}), b.Keep("p", "B", "about b", []revision.Key{key(3, "b"), key(3, "")}), b.Keep("p", "always", "", nil))
	b.Edit("p", 1, []revision.Edit{putDimension(-1, api.Dimension{Name: "a"})})
	b.Edit("p", 2, []revision.Edit{putDimension(2, api.Dimension{Name: "c"})})
	names := func(l []Result, e api.Errno) string {
		text := ""
		for _, x := range l {
			text += x.Name + " "
		}
		return text + fmt.Sprint(e)
	}
	for i, c := range []struct {
		number       int
		holds, stale string
	}{{1, "B always z 0", "0"}, {2, "B always 0", "z 0"}, {3, "always 0", "B z 0"}, {0, "2", "2"}, {4, "2", "2"}} {
		if holds, stale := names(b.Results("p", c.number)), names(b.Stale("p", c.number)); holds != c.holds || stale != c.stale {
			t.Errorf("%d: Results %s, Stale %s", i, holds, stale)
		}
	}
	must(t, b.Keep("p", "z", "new", []revision.Key{key(3, "a")}))
	if l, e := b.Results("p", 3); len(l) != 2 || fmt.Sprint(l[1]) != "{z new [{{3 a} 2}]}" || e != api.OK {
		t.Errorf("Results = %v, %d", l, e)
	}
	if l, e := b.Stale("p", 1); names(l, e) != "z 0" {
		t.Errorf("Stale = %v, %d", l, e)
	}
	if state(open(t, d)) != state(b) {
		t.Error("the database has another state when it is opened again")
	}
}

// P53.4, P53.5, P53.6
func TestQueries(t *testing.T) {
	b := open(t, newDisk(t, 1<<20))
	must(t, b.Create(sample("p")))
	b.Edit("p", 1, []revision.Edit{putDimension(-1, api.Dimension{Name: "b"}), putDimension(2, api.Dimension{Name: "c"})})
	b.Edit("p", 2, []revision.Edit{drop(3, "c")})
	b.Edit("p", 3, []revision.Edit{putDimension(-1, api.Dimension{Name: "b"})})
	b.Edit("p", 4, []revision.Edit{putDimension(0, api.Dimension{Name: "c"}), drop(5, "fit")})
	for i, c := range []struct {
		k    revision.Key
		want string
	}{{key(3, "a"), "[1]"}, {key(3, "b"), "[1 2 4]"}, {key(3, "c"), "[2 3 5]"}, {key(3, ""), "[1 2 3 5]"}, {key(5, "fit"), "[1 5]"}, {key(5, ""), "[1 5]"}, {key(4, ""), "[1]"}, {key(3, "z"), "[]"}, {key(9, ""), "[]"}} {
		if l, e := b.History("p", c.k); fmt.Sprint(l) != c.want || e != api.OK {
			t.Errorf("%d: History = %v, %d", i, l, e)
		}
	}
	for _, number := range []int{0, 6, -1} {
		if r, e := b.At("p", number); r.Number != 0 || r.Versions != nil || e != api.ErrRange {
			t.Errorf("At = %v, %d", r, e)
		}
	}
	if n, e := b.Last("p"); n != 5 || e != api.OK {
		t.Errorf("Last = %d, %d", n, e)
	}
	// Results share no memory with the database.
	before := state(b)
	must(t, b.Mark("p", "t", 1), b.Keep("p", "r", "", []revision.Key{key(3, "a")}))
	before = state(b)
	r, _ := b.At("p", 5)
	r.Versions[0].Number, r.Product.Dimensions[0].Name, r.Product.Constraints[0].Form.Terms[0].Dimension, r.Product.Assembly.Parts[0].Cells[0].Vertices[0][0] = 9, "x", 9, 9
	tags, _ := b.Tags("p")
	tags[0].Name = "x"
	results, _ := b.Results("p", 5)
	results[0].Reads[0].Number = 9
	b.Products()[0] = "x"
	if state(b) != before {
		t.Error("memory is shared")
	}
}

// errors returns the errors of all methods.
func errors(b *Database) []api.Errno {
	n, e1 := b.Edit("none", 9, nil)
	last, e2 := b.Last("none")
	r, e3 := b.At("none", 9)
	tags, e4 := b.Tags("none")
	number, e5 := b.Find("none", "")
	results, e6 := b.Results("none", 9)
	stale, e7 := b.Stale("none", 9)
	history, e8 := b.History("none", revision.Key{})
	if n+last+r.Number+number+len(tags)+len(results)+len(stale)+len(history) > 0 {
		return nil
	}
	return []api.Errno{b.Mark("none", "", 0), b.Keep("none", "", "", nil), e1, e2, e3, e4, e5, e6, e7, e8}
}

// Nil databases, broken ones, and products that are not there.
func TestErrors(t *testing.T) {
	d := newDisk(t, 1<<20)
	broken := open(t, d)
	must(t, broken.Create(sample("p")), d.Limit(1))
	if e := broken.Create(sample("q")); e != api.ErrCrash {
		t.Errorf("Create = %d", e)
	}
	d.Start(nil)
	for i, c := range []struct {
		b            *Database
		create, want api.Errno
	}{{nil, api.ErrArgument, api.ErrArgument}, {broken, api.ErrState, api.ErrState}, {open(t, newDisk(t, 1<<20)), api.ErrName, api.ErrNotFound}} {
		if e := c.b.Create(api.Product{}); e != c.create {
			t.Errorf("%d: Create = %d", i, e)
		}
		if l := errors(c.b); !slices.Equal(l, slices.Repeat([]api.Errno{c.want}, 10)) || len(c.b.Products()) != 0 {
			t.Errorf("%d: %d", i, l)
		}
	}
}

// P53.2, P53.3: changes that do not fit on the disk, or at all.
func TestFull(t *testing.T) {
	d := newDisk(t, 10000)
	b := open(t, d)
	must(t, b.Create(sample("p")), d.Append("filler", strings.Repeat("x", d.Free()-400)))
	before := state(b)
	big := sample("q")
	big.Assembly.Parts[0] = cube(strings.Repeat("q", 40))
	big.Assembly.Instances[0].Part = big.Assembly.Parts[0].Name
	big.Constraints[0].Form.Constant = api.Number(strings.Repeat("1", 400))
	if e := b.Create(big); e != api.ErrFull {
		t.Errorf("Create = %d", e)
	}
	if n, e := b.Edit("p", 1, []revision.Edit{{Op: revision.Put, At: -1, Item: revision.Item{Key: key(revision.Constraint, "k"), Constraint: big.Constraints[0]}}}); n != 0 || e != api.ErrFull {
		t.Errorf("Edit = %d, %d", n, e)
	}
	if e := b.Keep("p", "r", strings.Repeat("x", 500), nil); e != api.ErrFull {
		t.Errorf("Keep = %d", e)
	}
	must(t, d.Append("filler", strings.Repeat("x", d.Free()-12)))
	if e := b.Mark("p", "t", 1); e != api.ErrFull || state(b) != before {
		t.Errorf("Mark = %d", e)
	}
	must(t, d.Remove("filler"), b.Mark("p", "t", 1), b.Create(api.Product{Name: "small"}))
	if again := open(t, d); state(again) != state(b) {
		t.Errorf("the database has %s", state(again))
	}
	huge := sample("p")
	wide := api.Form{Constant: "0"}
	for i := range 63 {
		huge.Dimensions = append(huge.Dimensions[:i], api.Dimension{Name: fmt.Sprint("d", i)})
		wide.Terms = append(wide.Terms, api.Term{Dimension: i, Factor: api.Number(strings.Repeat("7", 400))})
	}
	for i := range 16 {
		huge.Constraints = append(huge.Constraints[:i], api.Constraint{Name: fmt.Sprint("k", i), Form: wide})
	}
	free := open(t, newDisk(t, 1<<24))
	if e := free.Create(huge); e != api.ErrLong || len(free.Products()) != 0 {
		t.Errorf("Create = %d", e)
	}
	huge.Constraints = huge.Constraints[:4]
	must(t, free.Create(huge))
	var l []revision.Edit
	for i := range 12 {
		l = append(l, revision.Edit{Op: revision.Put, At: 4 + i, Item: revision.Item{Key: key(revision.Constraint, fmt.Sprint("m", i)), Constraint: api.Constraint{Name: fmt.Sprint("m", i), Form: wide}}})
	}
	if n, e := free.Edit("p", 1, l); n != 0 || e != api.ErrLong {
		t.Errorf("Edit = %d, %d", n, e)
	}
	if n, e := free.Edit("p", 1, l[:8]); n != 2 || e != api.OK {
		t.Errorf("Edit = %d, %d", n, e)
	}
}

// Small changes fit: 2000 strings of 64 bytes.
func TestSmallChanges(t *testing.T) {
	p := api.Product{Name: "p"}
	form := api.Form{Constant: api.Number(strings.Repeat("3", 64))}
	for i := range 64 {
		p.Dimensions = append(p.Dimensions, api.Dimension{Name: fmt.Sprint(strings.Repeat("d", 38), 10+i), Nominal: -api.MaxLength, Lower: -api.MaxLength, Upper: api.MaxLength})
		form.Terms = append(form.Terms, api.Term{Dimension: i, Factor: api.Number(strings.Repeat("7", 64))})
	}
	var l []revision.Edit
	for i := range 13 {
		p.Constraints = append(p.Constraints, api.Constraint{Name: fmt.Sprint("k", i), Form: form})
	}
	for i := range 8 {
		x := api.Expr{Op: api.OpMax, Args: []api.Expr{{Form: form}, {Form: form}, {Form: form}}}
		x.Args[2].Form.Terms = x.Args[2].Form.Terms[:60]
		r := api.Requirement{Name: fmt.Sprint("r", i), Gap: x}
		l = append(l, revision.Edit{Op: revision.Put, At: i, Item: revision.Item{Key: key(revision.Requirement, r.Name), Requirement: r}})
	}
	d := newDisk(t, 1<<24)
	b := open(t, d)
	must(t, b.Create(p))
	if n, e := b.Edit("p", 1, l); n != 2 || e != api.OK {
		t.Errorf("Edit = %d, %d", n, e)
	}
	if state(open(t, d)) != state(b) {
		t.Error("the database has another state when it is opened again")
	}
}

// P53.7
func TestFailures(t *testing.T) {
	large := sample("large")
	for i := range 63 {
		large.Assembly.Parts = append(large.Assembly.Parts, cube(fmt.Sprint("part", strings.Repeat("x", 34), i)))
	}
	changes := []func(b *Database) api.Errno{
		func(b *Database) api.Errno { return b.Create(sample("p")) },
		func(b *Database) api.Errno { _, e := b.Edit("p", 1, edits()); return e },
		func(b *Database) api.Errno { return b.Mark("p", "t", 2) },
		func(b *Database) api.Errno { return b.Keep("p", "r", "text", []revision.Key{key(3, "a")}) },
		func(b *Database) api.Errno { return b.Create(large) },
		func(b *Database) api.Errno {
			_, e := b.Edit("p", 2, []revision.Edit{putDimension(-1, api.Dimension{Name: "a"})})
			return e
		},
		func(b *Database) api.Errno { return b.Keep("p", "r", "new", []revision.Key{key(3, "b")}) },
	}
	if n := len(split(encode(change{kind: create, created: large}))); n < 2 {
		t.Errorf("the large change has %d record", n)
	}
	r := rand.New(rand.NewSource(1))
	seen := [2]int{}
	for range 40 {
		d := newDisk(t, 1<<20)
		b := open(t, d)
		for i := 0; i < len(changes); {
			before := state(b)
			must(t, d.Limit(r.Intn(4)))
			e := changes[i](b)
			if e == api.OK {
				d.Limit(-1)
				i++
				continue
			}
			if e != api.ErrCrash || len(b.Products()) != 0 {
				t.Fatalf("%d: error %d", i, e)
			}
			whole := newDisk(t, 1<<20)
			after := open(t, whole)
			for _, change := range changes[:i+1] {
				must(t, change(after))
			}
			b = restart(t, r, d)
			switch state(b) {
			case before:
				seen[0]++
			case state(after):
				seen[1]++
				i++
			default:
				t.Fatalf("%d: behind a failure, the database has %s", i, state(b))
			}
		}
		if again := open(t, d); state(again) != state(b) {
			t.Fatal("the database has another state when it is opened again")
		}
	}
	if seen[0] == 0 || seen[1] == 0 {
		t.Errorf("%d changes were lost, %d were not", seen[0], seen[1])
	}
}

// restart starts the disk, and opens the database, in which power can fail again.
func restart(t *testing.T, r *rand.Rand, d *disk.Disk) *Database {
	for {
		d.Start([]int{r.Intn(9), r.Intn(1 << 16), r.Intn(2), r.Intn(1 << 16), r.Intn(2)})
		must(t, d.Limit(r.Intn(9)))
		b, e := Open(d, "d")
		if e == api.OK {
			must(t, d.Limit(-1))
			return b
		}
		if e != api.ErrCrash {
			t.Fatalf("Open: %d", e)
		}
	}
}

// What does not come from this package is no change, and leads to no panic.
func TestForeignRecords(t *testing.T) {
	text := encode(change{kind: edit, product: "p", edits: edits()})
	whole := encode(change{kind: create, created: sample("p")})
	if x, ok := decode(text); !ok || fmt.Sprint(x) != fmt.Sprint(change{kind: edit, product: "p", edits: edits()}) {
		t.Errorf("decode = %v, %t", x, ok)
	}
	for _, s := range []string{text, whole} {
		for n := range s {
			if x, ok := decode(s[:n]); ok {
				t.Errorf("decode = %v", x)
			}
		}
	}
	d := newDisk(t, 1<<20)
	j, _ := journal.Open(d, "d")
	for _, record := range []string{"", "\x00x", "\x03\xff\xff\xff\xff\xff\xff\xff\xff\xff\xff\xff", "\x03" + text, "\x01" + whole[:9], "\x03" + whole, "\x02" + whole, "\x01" + text} {
		j.Append(record)
	}
	j.Commit()
	b := open(t, d)
	if !slices.Equal(b.Products(), []string{"p"}) {
		t.Errorf("the products are %v", b.Products())
	}
	if n, e := b.Edit("p", 1, edits()); n != 2 || e != api.OK || state(open(t, d)) != state(b) {
		t.Errorf("Edit = %d, %d", n, e)
	}
}
