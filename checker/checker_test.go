package checker

import (
	"fmt"
	"math/rand"
	"reflect"
	"slices"
	"strings"
	"testing"

	"dowel/allocation"
	"dowel/api"
	"dowel/assembly"
	"dowel/blocking"
	"dowel/clearance"
	"dowel/contact"
	"dowel/direction"
	"dowel/force"
	"dowel/impossible"
	"dowel/linear"
	"dowel/meeting"
	rigid "dowel/motion"
	"dowel/piecewise"
	"dowel/plan"
	"dowel/rational"
	"dowel/solid"
	"dowel/stackup"
)

// copied returns a deep copy of plain data.
func copied(v reflect.Value) reflect.Value {
	made := reflect.New(v.Type()).Elem()
	switch v.Kind() {
	case reflect.Slice:
		if !v.IsNil() {
			made.Set(reflect.MakeSlice(v.Type(), v.Len(), v.Len()))
		}
		fallthrough
	case reflect.Array:
		for i := range v.Len() {
			made.Index(i).Set(copied(v.Index(i)))
		}
	case reflect.Struct:
		for i := range v.NumField() {
			made.Field(i).Set(copied(v.Field(i)))
		}
	default:
		made.Set(v)
	}
	return made
}

// places returns all fields and elements of plain data, however deep.
func places(v reflect.Value) []reflect.Value {
	var l []reflect.Value
	switch v.Kind() {
	case reflect.Slice:
		l = append(l, v)
		fallthrough
	case reflect.Array:
		for i := range v.Len() {
			l = append(l, places(v.Index(i))...)
		}
	case reflect.Struct:
		for i := range v.NumField() {
			l = append(l, places(v.Field(i))...)
		}
	default:
		l = append(l, v)
	}
	return l
}

// mutated returns plain data with a random change somewhere.
func mutated[T any](r *rand.Rand, x T) T {
	v := copied(reflect.ValueOf(x))
	p := reflect.New(v.Type()).Elem()
	p.Set(v)
	l := places(p)
	if len(l) == 0 {
		return x
	}
	mutate(r, l[r.Intn(len(l))])
	return p.Interface().(T)
}

func mutate(r *rand.Rand, v reflect.Value) {
	switch v.Kind() {
	case reflect.Int:
		v.SetInt(v.Int() + int64([]int{-1, 1, 2, -3, 99}[r.Intn(5)]))
	case reflect.Bool:
		v.SetBool(!v.Bool())
	case reflect.String:
		a, _ := rational.Read(api.Number(v.String()))
		half, _ := rational.Div(a, rational.From(2))
		l := []string{"", "0", "1", "-1", "2/2", "01", "x", "1/2", string(rational.Neg(a).Number()), string(rational.Add(a, rational.From(1)).Number()), string(rational.Sub(a, rational.From(1)).Number()), string(rational.Add(a, a).Number()), string(half.Number())}
		v.SetString(l[r.Intn(len(l))])
	case reflect.Slice:
		mutateList(r, v)
	}
}

func mutateList(r *rand.Rand, v reflect.Value) {
	n := v.Len()
	if n == 0 {
		v.Set(reflect.Append(v, reflect.New(v.Type().Elem()).Elem()))
		return
	}
	i := r.Intn(n)
	switch r.Intn(4) {
	case 0:
		v.Set(reflect.AppendSlice(v.Slice(0, i), v.Slice(i+1, n)))
	case 1:
		v.Set(reflect.Append(v, copied(v.Index(i))))
	case 2:
		k := r.Intn(n)
		a, b := copied(v.Index(i)), copied(v.Index(k))
		v.Index(i).Set(b)
		v.Index(k).Set(a)
	case 3:
		v.Set(v.Slice(0, i))
	}
}

// check compares what is said of a proof, and of changes of it, with what another package says.
func check[T any](t *testing.T, r *rand.Rand, name string, proof T, accepts func(T) api.Errno, verifies func(T) bool) {
	t.Helper()
	if !verifies(proof) {
		t.Fatalf("%s: the proof is none: %v", name, proof)
	}
	before := fmt.Sprint(proof)
	for i := range 40 {
		x := proof
		if i > 0 {
			x = mutated(r, x)
		}
		if i > 30 {
			x = mutated(r, x)
		}
		want := api.ErrCertificate
		if verifies(x) {
			want = api.OK
		}
		if e := accepts(x); e != want {
			t.Fatalf("%s: %d, not %d, for %v, from %v", name, e, want, x, proof)
		}
	}
	if fmt.Sprint(proof) != before {
		t.Fatalf("%s: a proof is changed", name)
	}
}

func number(n int) api.Number { return api.Number(fmt.Sprint(n)) }

func numbers(r *rand.Rand, n, most int) []api.Number {
	var l []api.Number
	for range n {
		l = append(l, number(r.Intn(2*most+1)-most))
	}
	return l
}

func words(text string) []api.Number {
	var l []api.Number
	for word := range strings.FieldsSeq(text) {
		l = append(l, api.Number(word))
	}
	return l
}

func point(text string) api.Point { return api.Point(words(text)) }

func points(l ...string) []api.Point {
	var made []api.Point
	for _, text := range l {
		made = append(made, point(text))
	}
	return made
}

// P54.1
func TestProgram(t *testing.T) {
	r := rand.New(rand.NewSource(1))
	seen := map[int]int{}
	for range 300 {
		n := 1 + r.Intn(3)
		p := api.Program{Objective: numbers(r, n, 3)}
		for range r.Intn(6) {
			p.Rows = append(p.Rows, api.Row{Coefficients: numbers(r, n, 3), Bound: number(r.Intn(9) - 4)})
		}
		o, _ := linear.Solve(p)
		seen[o.Kind]++
		check(t, r, "Program", o, func(o api.Outcome) api.Errno { return Program(p, o) }, func(o api.Outcome) bool { return linear.Verify(p, o) == api.OK })
		q := mutated(r, p)
		if e := Program(q, o); (e == api.OK) != (linear.Verify(q, o) == api.OK) {
			t.Fatalf("Program: %d for %v, %v", e, q, o)
		}
	}
	if seen[api.Optimal] < 20 || seen[api.Infeasible] < 20 || seen[api.Unbounded] < 20 {
		t.Errorf("the kinds are %v", seen)
	}
	large := api.Program{Objective: rational.Numbers(make([]rational.Rat, api.MaxVariables+1))}
	if e := Program(large, api.Outcome{Kind: api.Optimal, Value: "0", Point: large.Objective}); e != api.ErrCertificate {
		t.Errorf("Program: %d", e)
	}
	long := api.Program{Rows: slices.Repeat([]api.Row{{Bound: "0"}}, api.MaxRows+1)}
	for rows, want := range map[int]api.Errno{api.MaxRows: api.OK, api.MaxRows + 1: api.ErrCertificate} {
		p := api.Program{Rows: long.Rows[:rows]}
		if e := Program(p, api.Outcome{Kind: api.Optimal, Value: "0", Duals: rational.Numbers(make([]rational.Rat, rows))}); e != want {
			t.Errorf("Program: %d", e)
		}
	}
	if e := Program(api.Program{Objective: words("1"), Rows: []api.Row{{Coefficients: words("1 0"), Bound: "2"}}}, api.Outcome{Kind: api.Optimal, Value: "2", Point: words("2"), Duals: words("1")}); e != api.ErrCertificate {
		t.Errorf("Program: %d", e)
	}
}

// P54.1
func TestTree(t *testing.T) {
	r := rand.New(rand.NewSource(1))
	for range 150 {
		var l []api.Point
		for range r.Intn(6) {
			p := api.Point(numbers(r, 3, 1+r.Intn(2)))
			if r.Intn(3) == 0 {
				p[2] = "0"
			}
			if p != point("0 0 0") {
				l = append(l, p)
			}
		}
		planes, e := direction.Collect(l)
		if e != api.OK {
			t.Fatalf("Collect: %d", e)
		}
		tree, _ := direction.Tree(planes)
		check(t, r, "Tree", tree, func(x []api.Branch) api.Errno { return Tree(planes, x) }, func(x []api.Branch) bool { return direction.Verify(planes, x) == api.OK })
		other := mutated(r, planes)
		if e := Tree(other, tree); (e == api.OK) != (direction.Verify(other, tree) == api.OK) {
			t.Fatalf("Tree: %d for %v, %v", e, other, tree)
		}
	}
	axes := points("0 0 1", "0 1 0", "1 0 0")
	tree, _ := direction.Tree(axes)
	for i, c := range []struct {
		planes []api.Point
		want   api.Errno
	}{{axes, api.OK}, {points("0 0 1", "0 1 0", "2 0 0"), api.ErrCertificate}, {points("0 0 1", "0 1 0", "-1 0 0"), api.ErrCertificate}, {points("0 1 0", "0 0 1", "1 0 0"), api.ErrCertificate}, {points("0 0 1", "0 1 0", "0 1 0"), api.ErrCertificate}, {points("0 0 1", "0 1 0", "0 0 0"), api.ErrCertificate}, {points("0 0 1", "0 1 0", "1/2 0 0"), api.ErrCertificate}, {axes[:2], api.ErrCertificate}} {
		if e := Tree(c.planes, tree); e != c.want {
			t.Errorf("%d: Tree: %d", i, e)
		}
	}
	var many []api.Point
	for i := range api.MaxPlanes + 1 {
		many = append(many, point(fmt.Sprintf("1 %d 0", i)))
	}
	if e := Tree(many, []api.Branch{{Direction: point("1 0 0")}}); e != api.ErrCertificate {
		t.Errorf("Tree: %d", e)
	}
}

func randomForm(r *rand.Rand, n int) api.Form {
	f := api.Form{Constant: number(r.Intn(5) - 2)}
	for d := range n {
		if k := r.Intn(5) - 2; k != 0 {
			f.Terms = append(f.Terms, api.Term{Dimension: d, Factor: number(k)})
		}
	}
	return f
}

func randomExpr(r *rand.Rand, n, levels int) api.Expr {
	kind := r.Intn(6)
	if levels == 1 || kind == api.OpForm {
		return api.Expr{Form: randomForm(r, n)}
	}
	x := api.Expr{Op: kind}
	if kind == api.OpScale {
		x.Factor = []api.Number{"0", "-1/2", "-1", "2"}[r.Intn(4)]
	}
	for i := range 3 {
		if i == 0 || kind != api.OpScale && kind != api.OpAbs && r.Intn(2) == 0 {
			x.Args = append(x.Args, randomExpr(r, n, levels-1))
		}
	}
	return x
}

// P54.1
func TestWorst(t *testing.T) {
	r := rand.New(rand.NewSource(1))
	tried := 0
	for range 400 {
		var p stackup.Problem
		n := 1 + r.Intn(3)
		for i := range n {
			p.Dimensions = append(p.Dimensions, api.Dimension{Name: fmt.Sprint("d", i), Nominal: r.Intn(5) - 2, Lower: -r.Intn(3), Upper: r.Intn(3)})
		}
		for i := range r.Intn(2) {
			p.Constraints = append(p.Constraints, api.Constraint{Name: fmt.Sprint("c", i), Form: randomForm(r, n)})
		}
		x := randomExpr(r, n, 4)
		if piecewise.Check(p, x) != api.OK {
			continue
		}
		greatest := r.Intn(2) == 0
		w, e := piecewise.Least(p, x)
		if greatest {
			w, e = piecewise.Greatest(p, x)
		}
		if e != api.OK {
			continue
		}
		tried++
		check(t, r, "Worst", w, func(w api.Worst) api.Errno { return Worst(p.Dimensions, p.Constraints, x, greatest, w) }, func(w api.Worst) bool { return piecewise.Verify(p, x, greatest, w) == api.OK })
		if e := Worst(p.Dimensions, p.Constraints, x, !greatest, w); (e == api.OK) != (piecewise.Verify(p, x, !greatest, w) == api.OK) {
			t.Fatalf("Worst: %d", e)
		}
	}
	if tried < 150 {
		t.Errorf("%d worst cases", tried)
	}
}

// P54.1
func TestAllocation(t *testing.T) {
	r := rand.New(rand.NewSource(1))
	possible := 0
	for range 200 {
		var o api.Offer
		for i := range 1 + r.Intn(3) {
			o.Dimensions = append(o.Dimensions, api.Dimension{Name: fmt.Sprint("d", i), Nominal: r.Intn(5)})
			var l []api.Option
			for range 1 + r.Intn(3) {
				lower := -r.Intn(4)
				l = append(l, api.Option{Lower: lower, Upper: lower + r.Intn(5), Cost: r.Intn(4)})
			}
			o.Options = append(o.Options, l)
		}
		for i := range r.Intn(3) {
			q := api.Requirement{Name: fmt.Sprint("r", i), Gap: api.Expr{Form: randomForm(r, len(o.Dimensions))}, Low: number(-2 - r.Intn(9)), High: number(2 + r.Intn(12))}
			if r.Intn(3) == 0 {
				q.High = ""
			}
			o.Requirements = append(o.Requirements, q)
		}
		a, e := allocation.Allocate(o)
		if e != api.OK {
			t.Fatalf("Allocate: %d", e)
		}
		if a.Possible {
			possible++
		}
		check(t, r, "Allocation", a, func(a api.Allocation) api.Errno { return Allocation(o, a) }, func(a api.Allocation) bool { return allocation.Verify(o, a) == api.OK })
	}
	if possible < 50 || possible > 190 {
		t.Errorf("%d are possible", possible)
	}
}

func box(x, y, z, a, b, c int) api.Cell {
	return api.Cell{Vertices: []api.Vector{{x, y, z}, {x, y, c}, {x, b, z}, {x, b, c}, {a, y, z}, {a, y, c}, {a, b, z}, {a, b, c}}}
}

// build returns an assembly whose instances stay where the cells of their parts are.
func build(parts ...[]api.Cell) api.Assembly {
	var a api.Assembly
	for i, cells := range parts {
		name := string(rune('a' + i))
		a.Parts = append(a.Parts, api.Part{Name: name, Density: 1, Cells: cells})
		a.Instances = append(a.Instances, api.Instance{Name: name, Part: name, Place: api.Placement{Turn: [4]int{1, 0, 0, 0}, Shift: point("0 0 0")}})
	}
	return a
}

func cube(x, y, z int) []api.Cell { return []api.Cell{box(x, y, z, x+1, y+1, z+1)} }

// scattered returns turned instances of boxes and tetrahedra, which can penetrate.
func scattered(r *rand.Rand) api.Assembly {
	a := build([]api.Cell{box(0, 0, 0, 1, 1, 2), box(1, 0, 0, 2, 1, 1)}, []api.Cell{{Vertices: []api.Vector{{0, 0, 0}, {0, 1, 2}, {1, 0, 0}, {2, 2, 0}}}}, []api.Cell{box(0, 0, 0, 2, 1, 1)})
	turns := append(rigid.Quarters(), [4]int{2, 1, 0, 0}, [4]int{1, 1, 1, -3}, [4]int{12, -5, 0, 7})
	for i := range a.Instances {
		place := &a.Instances[i].Place
		place.Turn = turns[r.Intn(len(turns))]
		place.Shift = api.Point{number(r.Intn(5)), number(r.Intn(4)), number(r.Intn(3))}
		if r.Intn(4) == 0 {
			place.Shift[0] = "1/3"
		}
	}
	return a
}

// solids returns the solids of all instances.
func solids(t *testing.T, a api.Assembly) []solid.Solid {
	l, e := assembly.Place(a)
	if e != api.OK {
		t.Fatalf("Place: %d", e)
	}
	return l
}

// P54.2
func TestSeparation(t *testing.T) {
	r := rand.New(rand.NewSource(1))
	seen := map[int]int{}
	for range 150 {
		a := scattered(r)
		l := solids(t, a)
		x, y := Cell{0, r.Intn(2)}, Cell{1 + r.Intn(2), 0}
		if r.Intn(2) == 0 {
			x, y = y, x
		}
		c, d := l[x.Instance].Cells[x.Cell], l[y.Instance].Cells[y.Cell]
		s := meeting.Prove(c, d)
		seen[s.Kind]++
		check(t, r, "Separation", s, func(s api.Separation) api.Errno { return Separation(a, x, y, s) }, func(s api.Separation) bool { return meeting.Verify(c, d, s) == api.OK })
		for _, other := range []Cell{{x.Instance, 1 - x.Cell}, {-1, 0}, {3, 0}, {y.Instance, -1}, {1, 1}, {x.Instance, 2}, y} {
			if e := Separation(a, other, y, s); e == api.OK && other.Instance != 0 {
				t.Fatalf("Separation of %v is accepted", other)
			}
		}
	}
	if seen[api.Apart] < 20 || seen[api.Touching] < 5 || seen[api.Meeting] < 5 {
		t.Errorf("the kinds are %v", seen)
	}
	a := build(cube(0, 0, 0), cube(2, 0, 0))
	for offset, want := range map[api.Number]api.Errno{"3/2": api.OK, "1": api.ErrCertificate, "2": api.ErrCertificate, "6/4": api.ErrCertificate} {
		if e := Separation(a, Cell{0, 0}, Cell{1, 0}, api.Separation{Kind: api.Apart, Plane: api.Plane{Normal: point("1 0 0"), Offset: offset}}); e != want {
			t.Errorf("Separation: %d", e)
		}
	}
}

// P54.2
func TestDistance(t *testing.T) {
	r := rand.New(rand.NewSource(1))
	apart := 0
	for range 120 {
		a := scattered(r)
		l := solids(t, a)
		x, y := r.Intn(3), r.Intn(2)
		if y >= x {
			y++
		}
		d, e := clearance.Solids(l[x], l[y])
		if e != api.OK {
			t.Fatalf("Solids: %d", e)
		}
		if d.Value != "0" {
			apart++
		}
		check(t, r, "Distance", d, func(d api.Distance) api.Errno { return Distance(a, x, y, d) }, func(d api.Distance) bool { return clearance.Verify(l[x], l[y], d) == api.OK })
		for _, other := range []int{-1, 3, y} {
			if Distance(a, other, y, d) == api.OK || Distance(a, x, []int{-1, 3, x}[r.Intn(3)], d) == api.OK {
				t.Fatalf("Distance of %d is accepted", other)
			}
		}
	}
	if apart < 20 || apart > 110 {
		t.Errorf("%d are apart", apart)
	}
}

// loose returns a sound assembly of boxes.
func loose(r *rand.Rand) api.Assembly {
	for {
		var parts [][]api.Cell
		for range 2 + r.Intn(3) {
			x, y, z := r.Intn(3), r.Intn(2), r.Intn(3)
			l := []api.Cell{box(x, y, z, x+1, y+1+r.Intn(2), z+1)}
			if r.Intn(3) == 0 {
				l = append(l, box(x+1, y, z, x+2, y+1, z+1), box(x+1, y, z+1, x+2, y+1, z+2))
			}
			parts = append(parts, l)
		}
		a := build(parts...)
		if r.Intn(2) == 0 {
			a, _ = assembly.Move(a, api.Placement{Turn: [4]int{2, 1, 0, 0}, Shift: point("1/2 0 -3")})
		}
		if _, _, e := assembly.Sound(a); e == api.OK {
			return a
		}
	}
}

// P54.3
func TestArc(t *testing.T) {
	r := rand.New(rand.NewSource(1))
	arcs := 0
	for range 200 {
		a := loose(r)
		scene, e := blocking.Open(a)
		if e != api.OK {
			t.Fatalf("Open: %d", e)
		}
		d := []api.Point{point("1 0 0"), point("0 -1 0"), point("0 1 1"), point("-1 2 0"), point("3 4 5")}[r.Intn(5)]
		kind := api.Far + r.Intn(2)
		arc, ok, _ := scene.Arc(0, 1, d, kind)
		if !ok {
			continue
		}
		arcs++
		check(t, r, "Arc", arc, func(x api.Arc) api.Errno { return Arc(a, x, d, kind) }, func(x api.Arc) bool { return scene.Verify(x, d, kind) == api.OK })
		other := mutated(r, d)
		e = scene.Verify(arc, other, kind)
		if got := Arc(a, arc, other, kind); e == api.OK && got != api.OK || e == api.ErrCertificate && got == api.OK {
			t.Fatalf("Arc: %d, not %d, for %v", got, e, other)
		}
		for _, wrong := range []int{0, 3, -1} {
			if Arc(a, arc, d, wrong) == api.OK {
				t.Fatal("an arc of no kind is accepted")
			}
		}
	}
	if arcs < 20 {
		t.Errorf("%d arcs", arcs)
	}
	a := build(cube(0, 0, 0), cube(2, 0, 0))
	for i, c := range []struct {
		time      api.Number
		direction string
		want      api.Errno
	}{{"2", "1 0 0", api.OK}, {"1", "1 0 0", api.ErrCertificate}, {"3", "1 0 0", api.ErrCertificate}, {"5", "1/2 0 0", api.OK}, {"4/2", "1 0 0", api.ErrCertificate}, {"2", "0 0 0", api.ErrCertificate}, {"2", "1 0 2/4", api.ErrCertificate}, {"", "1 0 0", api.ErrCertificate}} {
		if e := Arc(a, api.Arc{From: 0, To: 1, Time: c.time}, point(c.direction), api.Far); e != c.want {
			t.Errorf("%d: Arc: %d", i, e)
		}
	}
}

// hooked is three parts in a row, of which one can hold another one.
func hooked(r *rand.Rand) api.Assembly {
	hook := []api.Cell{box(0, 0, 0, 1, 1, 3), box(1, 0, 2, 2, 1, 3), box(2, 0, 0, 3, 1, 3)}
	parts := [][]api.Cell{hook, {box(1, 0, 0, 2, 1, 1)}, {box(3+r.Intn(2), 0, 0, 5, 1, 2), box(3, 0, 3, 4, 1, 4)}}
	a := build(parts...)
	if r.Intn(2) == 0 {
		a, _ = assembly.Move(a, api.Placement{Turn: [4]int{1, 0, 0, 0}, Shift: point("1/2 0 -3")})
	}
	r.Shuffle(3, func(i, k int) { a.Instances[i], a.Instances[k] = a.Instances[k], a.Instances[i] })
	return a
}

// rings is two frames, each of which goes through the other one.
func rings(more ...[]api.Cell) api.Assembly {
	return build(append([][]api.Cell{{box(0, 0, 0, 1, 5, 1), box(6, 0, 0, 7, 5, 1), box(1, 0, 0, 6, 1, 1), box(1, 4, 0, 6, 5, 1)}, {box(4, 2, -2, 5, 3, 3), box(10, 2, -2, 11, 3, 3), box(5, 2, -2, 10, 3, -1), box(5, 2, 2, 10, 3, 3)}}, more...)...)
}

// lock is a cube (1) in a closed box (0).
func lock() api.Assembly {
	return build([]api.Cell{box(0, 0, 0, 3, 3, 1), box(0, 0, 1, 1, 3, 2), box(2, 0, 1, 3, 3, 2), box(1, 0, 1, 2, 1, 2), box(1, 2, 1, 2, 3, 2), box(0, 0, 2, 3, 3, 3)}, cube(1, 1, 1))
}

func kind(blocking int, directions ...string) api.Kind {
	return api.Kind{Blocking: blocking, Directions: points(directions...)}
}

// checkCore compares what is said of a core, and of changes of it.
func checkCore(t *testing.T, r *rand.Rand, a api.Assembly, core api.Core) {
	t.Helper()
	check(t, r, "Core", core, func(x api.Core) api.Errno {
		e := Core(a, x)
		// Of all directions at once, more can be proved.
		if len(x.Kind.Directions) == 0 && e == api.OK || plan.CheckKind(x.Kind) != api.OK {
			if impossible.Verify(a, x) != api.OK {
				return api.ErrCertificate
			}
		}
		return e
	}, func(x api.Core) bool { return impossible.Verify(a, x) == api.OK })
}

// P54.3
func TestCore(t *testing.T) {
	r := rand.New(rand.NewSource(1))
	axes := []string{"1 0 0", "-1 0 0", "0 1 0", "0 -1 0", "0 0 1", "0 0 -1", "1 1 0"}
	cores := 0
	for range 200 {
		a := hooked(r)
		k := kind(api.Far+r.Intn(2), axes[:1+r.Intn(2)]...)
		core, held, e := impossible.Prove(a, []int{0, 1, 2}, k, r.Intn(3), r.Intn(4)-1)
		if e != api.OK || !held {
			continue
		}
		cores++
		checkCore(t, r, a, core)
		spare, _ := impossible.Spare(core)
		checkCore(t, r, a, spare)
	}
	if cores < 20 {
		t.Errorf("%d cores", cores)
	}
	for i, c := range []struct {
		a    api.Assembly
		kind api.Kind
		kept int
	}{
		{lock(), kind(api.Far), -1}, {lock(), kind(api.Local), -1}, {lock(), kind(api.Local), 1}, {lock(), kind(api.Local, axes...), 0}, {rings(), kind(api.Far, axes...), -1}, {rings(cube(20, 0, 0)), kind(api.Far, axes...), 0},
	} {
		core, held, e := impossible.Prove(c.a, []int{0, 1}, c.kind, 0, c.kept)
		if !held || e != api.OK {
			t.Fatalf("%d: Prove: %t, %d", i, held, e)
		}
		checkCore(t, r, c.a, core)
		spare, _ := impossible.Spare(core)
		checkCore(t, r, c.a, spare)
	}
}

// P54.3: for all directions at once, with other planes than those of blocking.
func TestCoreForAllDirections(t *testing.T) {
	a := lock()
	for i, c := range []struct {
		kind   int
		planes []api.Point
		want   api.Errno
	}{
		// The planes of blocking of the cube in the box are those of its faces. With others, the arcs of a direction can be right for all directions of its cell, or not.
		{api.Local, points("0 0 1", "0 1 0", "1 0 0"), api.OK}, {api.Local, points("0 0 1", "0 1 0", "1 0 0", "1 1 0"), api.OK}, {api.Local, points("0 0 1", "0 1 1", "1 0 0"), api.OK}, {api.Local, points("0 1 0", "1 0 0"), api.ErrCertificate}, {api.Local, points("0 0 1", "0 1 1"), api.ErrCertificate}, {api.Local, points("0 0 1"), api.ErrCertificate}, {api.Local, nil, api.ErrCertificate},
	} {
		core := api.Core{Kind: kind(c.kind), Set: []int{0, 1}, Kept: -1, Planes: c.planes}
		core.Tree, _ = direction.Tree(c.planes)
		directions, _ := direction.Directions(core.Tree, len(c.planes))
		scene, _ := blocking.Open(a)
		for _, d := range directions {
			arcs, _ := scene.Arcs(core.Set, d, c.kind)
			core.Blocks = append(core.Blocks, api.Block{Direction: d, Arcs: arcs})
		}
		if e := Core(a, core); e != c.want {
			t.Errorf("%d: Core: %d, not %d", i, e, c.want)
		}
		if e := impossible.Verify(a, core); e == api.OK && c.want != api.OK {
			t.Errorf("%d: Verify: %d", i, e)
		}
	}
	// An instance that is there twice, as the same direction, is no question of plan, but proved.
	core, _, _ := impossible.Prove(a, []int{0, 1}, kind(api.Far, "1 0 0"), 0, -1)
	core.Kind.Directions = append(core.Kind.Directions, core.Kind.Directions[0])
	if e := Core(a, core); e != api.ErrCertificate {
		t.Errorf("Core: %d", e)
	}
	core.Blocks = append(core.Blocks, core.Blocks[0])
	if e := Core(a, core); e != api.OK {
		t.Errorf("Core: %d", e)
	}
}

// P54.4
func TestStand(t *testing.T) {
	r := rand.New(rand.NewSource(1))
	stands, falls := 0, 0
	for range 100 {
		a := loose(r)
		s := force.System{Assembly: a, Free: []int{0}, Gravity: points("0 0 0", "0 0 -1", "0 -1 -1", "1 0 2")[r.Intn(4)]}
		for i := 1; i < len(a.Instances); i++ {
			if r.Intn(3) == 0 {
				s.Free = append(s.Free, i)
			} else {
				s.Held = append(s.Held, i)
			}
		}
		for range r.Intn(5) {
			s.Supports = append(s.Supports, force.Support{Instance: 0, Point: api.Point(numbers(r, 3, 2)), Normal: api.Point(append(numbers(r, 2, 1), "1"))})
		}
		x, e := force.Balance(s)
		if e != api.OK {
			continue
		}
		if x.Stands {
			stands++
		} else {
			falls++
		}
		forces, sides, weights := systemOf(t, s)
		check(t, r, "Stand", x, func(x api.Stand) api.Errno { return Stand(forces, sides, weights, x) }, func(x api.Stand) bool { return force.Verify(s, x) == api.OK })
	}
	if stands < 20 || falls < 20 {
		t.Errorf("%d stand, %d fall", stands, falls)
	}
}

// systemOf returns the forces of a system with their sides, and the weights.
func systemOf(t *testing.T, s force.System) ([]api.Force, []Sides, []api.Wrench) {
	forces, e := force.Forces(s)
	weights, e2 := force.Weights(s)
	if e+e2 != api.OK {
		t.Fatalf("Forces: %d, Weights: %d", e, e2)
	}
	var sides []Sides
	contacts := contactsOf(t, s.Assembly)
	for _, f := range forces {
		if f.Contact < 0 {
			sides = append(sides, Sides{-1, slices.Index(s.Free, s.Supports[-1-f.Contact].Instance)})
			continue
		}
		c := contacts[f.Contact]
		sides = append(sides, Sides{slices.Index(s.Free, c.B), slices.Index(s.Free, c.A)})
	}
	return forces, sides, weights
}

// P54.4
func TestStandOfAnything(t *testing.T) {
	up := api.Force{Point: point("0 0 0"), Normal: point("0 0 1"), Size: "?", Contact: 99}
	weight := api.Wrench(words("0 0 0 0 0 -5"))
	down := api.Twist(words("0 0 0 0 0 -1"))
	one := []Sides{{0, -1}}
	stand := api.Stand{Stands: true, Forces: words("5")}
	for i, c := range []struct {
		forces  []api.Force
		sides   []Sides
		weights []api.Wrench
		s       api.Stand
		want    api.Errno
	}{
		{[]api.Force{up}, one, []api.Wrench{weight}, stand, api.OK}, {[]api.Force{up}, []Sides{{-1, 0}}, []api.Wrench{weight}, stand, api.ErrCertificate}, {[]api.Force{up}, []Sides{{0, 0}}, []api.Wrench{weight}, stand, api.ErrCertificate}, {[]api.Force{up}, []Sides{{1, -1}}, []api.Wrench{weight}, stand, api.ErrCertificate}, {[]api.Force{up}, []Sides{{0, -2}}, []api.Wrench{weight}, stand, api.ErrCertificate}, {[]api.Force{up}, nil, []api.Wrench{weight}, stand, api.ErrCertificate}, {[]api.Force{up}, append(one, one...), []api.Wrench{weight}, stand, api.ErrCertificate},
		{[]api.Force{{Point: point("0 0 0"), Normal: point("0 0 2/2")}}, one, []api.Wrench{weight}, stand, api.ErrCertificate}, {[]api.Force{{Point: point("1 0 0"), Normal: point("0 0 1")}}, one, []api.Wrench{weight}, stand, api.ErrCertificate}, {[]api.Force{{Normal: point("0 0 1")}}, one, []api.Wrench{weight}, stand, api.ErrCertificate}, {[]api.Force{up}, one, []api.Wrench{{"0", "0", "0", "0", "0", "-05"}}, stand, api.ErrCertificate}, {[]api.Force{up}, one, nil, stand, api.ErrCertificate}, {nil, nil, nil, api.Stand{Stands: true}, api.OK}, {nil, nil, nil, api.Stand{}, api.ErrCertificate}, {nil, nil, []api.Wrench{weight}, api.Stand{Stands: true}, api.ErrCertificate},
		{nil, nil, []api.Wrench{weight}, api.Stand{Motion: []api.Twist{down}}, api.OK}, {[]api.Force{up}, one, []api.Wrench{weight}, api.Stand{Motion: []api.Twist{down}}, api.ErrCertificate}, {[]api.Force{up}, []Sides{{-1, 0}}, []api.Wrench{weight}, api.Stand{Motion: []api.Twist{down}}, api.OK}, {[]api.Force{up}, []Sides{{0, 0}}, []api.Wrench{weight}, api.Stand{Motion: []api.Twist{down}}, api.OK}, {nil, nil, []api.Wrench{weight}, api.Stand{Motion: []api.Twist{down, down}}, api.ErrCertificate}, {nil, nil, []api.Wrench{weight}, api.Stand{Motion: []api.Twist{down}, Forces: words("0")}, api.ErrCertificate}, {nil, nil, []api.Wrench{weight}, api.Stand{Motion: []api.Twist{api.Twist(words("0 0 0 1 0 0"))}}, api.ErrCertificate},
	} {
		if e := Stand(c.forces, c.sides, c.weights, c.s); e != c.want {
			t.Errorf("%d: Stand: %d", i, e)
		}
	}
}

// P54.5
func TestConsequences(t *testing.T) {
	r := rand.New(rand.NewSource(2))
	for range 60 {
		a := scattered(r)
		l := solids(t, a)
		x, y := Cell{0, 0}, Cell{1, 0}
		accepted := 0
		p := meeting.Prove(l[0].Cells[0], l[1].Cells[0])
		for _, kind := range []int{api.Apart, api.Touching, api.Meeting} {
			s := p
			s.Kind = kind
			if Separation(a, x, y, s) == api.OK {
				accepted++
			}
		}
		d, _ := clearance.Solids(l[0], l[1])
		more := d
		more.Value = rational.Numbers([]rational.Rat{rational.From(r.Intn(4))})[0]
		if accepted != 1 || Distance(a, 0, 1, more) == api.OK && more.Value != d.Value {
			t.Fatalf("%d kinds, or two distances, %s and %s, are accepted", accepted, d.Value, more.Value)
		}
	}
}

// Whatever the arguments are, the functions end without a panic.
func TestAnything(t *testing.T) {
	r := rand.New(rand.NewSource(3))
	a := lock()
	core, _, _ := impossible.Prove(a, []int{0, 1}, kind(api.Far), 0, -1)
	offer := api.Offer{Dimensions: []api.Dimension{{Name: "d"}}, Options: [][]api.Option{{{Cost: 1}, {}}}, Requirements: []api.Requirement{{Name: "r", Gap: api.Expr{Form: api.Form{Constant: "0", Terms: []api.Term{{Dimension: 0, Factor: "1"}}}}, Low: "0"}}}
	x, _ := allocation.Allocate(offer)
	expr := api.Expr{Op: api.OpMax, Args: []api.Expr{{Form: offer.Requirements[0].Gap.Form}, {Op: api.OpAbs, Args: []api.Expr{{Form: api.Form{Constant: "1"}}}}}}
	w, _ := piecewise.Greatest(stackup.Problem{Dimensions: offer.Dimensions}, expr)
	for range 600 {
		b, o, e := mutated(r, a), mutated(r, offer), mutated(r, expr)
		if r.Intn(2) == 0 {
			b.Instances = b.Instances[:r.Intn(len(b.Instances)+1)]
		}
		Core(b, core)
		Arc(b, api.Arc{From: 0, To: 1, Time: "1"}, point("1 0 0"), api.Far)
		Separation(b, Cell{0, 0}, Cell{1, 0}, api.Separation{Kind: 1 + r.Intn(3), Plane: api.Plane{Normal: point("1 0 0"), Offset: "0"}, Point: point("0 0 0")})
		Distance(b, 0, 1, api.Distance{Value: "0", A: point("1 1 1"), B: point("1 1 1")})
		Allocation(o, x)
		var constraints []api.Constraint
		for _, q := range o.Requirements {
			constraints = append(constraints, api.Constraint{Form: q.Gap.Form})
		}
		Worst(o.Dimensions, constraints, e, true, w)
	}
}

// contactsOf returns the contacts of an assembly.
func contactsOf(t *testing.T, a api.Assembly) []api.Contact {
	l, e := contact.Of(a)
	if e != api.OK {
		t.Fatalf("Of: %d", e)
	}
	return l
}
