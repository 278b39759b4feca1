package removable

import (
	"fmt"
	"math/rand"
	"slices"
	"testing"

	"dowel/api"
	"dowel/blocking"
	"dowel/graph"
)

func graphOf(t *testing.T, nodes int, pairs ...int) graph.Graph {
	t.Helper()
	var l []graph.Edge
	for i := 0; i < len(pairs); i += 2 {
		l = append(l, graph.Edge{From: pairs[i], To: pairs[i+1]})
	}
	g, e := graph.Make(nodes, l)
	if e != api.OK {
		t.Fatal(e)
	}
	return g
}

func random(r *rand.Rand, nodes, edges int) graph.Graph {
	var l []graph.Edge
	for range edges {
		l = append(l, graph.Edge{From: r.Intn(nodes), To: r.Intn(nodes)})
	}
	g, _ := graph.Make(nodes, l)
	return g
}

func expect(t *testing.T, what string, got any, e api.Errno, want any) {
	t.Helper()
	if a, b := fmt.Sprint(got), fmt.Sprint(want); a != b || e != api.OK {
		t.Errorf("%s = %s, %d, not %s", what, a, e, b)
	}
}

// all returns all restricted candidates by trying all sets.
func all(g graph.Graph, most, without int, accepts func(set) bool) [][]int {
	l := [][]int{}
	for s := set(1); s < full(g.Nodes); s++ {
		isClosed, _ := graph.Closed(g, s.nodes())
		if isClosed && (most == 0 || s.size() <= most) && (without < 0 || s>>without&1 == 0) && accepts(s) {
			l = append(l, s.nodes())
		}
	}
	slices.SortFunc(l, func(a, b []int) int {
		if len(a) != len(b) {
			return len(a) - len(b)
		}
		return slices.Compare(a, b)
	})
	return l
}

func any1(set) bool { return true }

// P24.1
func TestCandidatesAndLeast(t *testing.T) {
	g := graphOf(t, 4, 0, 1, 1, 0, 2, 3)
	for _, c := range []struct {
		most, without int
		want          [][]int
	}{{0, -1, [][]int{{3}, {0, 1}, {2, 3}, {0, 1, 3}}}, {1, -1, [][]int{{3}}}, {1, 3, nil}, {0, 3, [][]int{{0, 1}}}, {2, 0, [][]int{{3}, {2, 3}}}, {9, -1, [][]int{{3}, {0, 1}, {2, 3}, {0, 1, 3}}}} {
		l, e := Candidates(g, c.most, c.without)
		expect(t, "Candidates", l, e, append([][]int{}, c.want...))
		s, found, e := Least(g, c.most, c.without)
		var want []int
		if len(c.want) > 0 {
			want = c.want[0]
		}
		if !slices.Equal(s, want) || found != (c.want != nil) || e != api.OK {
			t.Errorf("Least(%d, %d) = %d, %t, %d", c.most, c.without, s, found, e)
		}
		is, e := Held(g, c.most, c.without)
		expect(t, "Held", is, e, c.want == nil)
	}
	for _, g := range []graph.Graph{{}, {Nodes: 1}, graphOf(t, 3, 0, 1, 1, 2, 2, 0)} {
		l, e := Candidates(g, 0, -1)
		expect(t, "Candidates", l, e, [][]int{})
		if s, found, e := Least(g, 0, -1); s != nil || found || e != api.OK {
			t.Errorf("Least = %d, %t, %d", s, found, e)
		}
	}
}

// Eleven nodes without edges have 2046 candidates, ten of them 1022.
func TestLimits(t *testing.T) {
	if l, e := Candidates(graph.Graph{Nodes: 11}, 0, -1); l != nil || e != api.ErrLimit {
		t.Errorf("Candidates: %d", e)
	}
	if l, e := Candidates(graph.Graph{Nodes: 10}, 0, -1); len(l) != 1022 || e != api.OK {
		t.Errorf("Candidates: %d, %d", len(l), e)
	}
	if l, e := Candidates(graph.Graph{Nodes: 64}, 1, 5); len(l) != 63 || e != api.OK {
		t.Errorf("Candidates: %d, %d", len(l), e)
	}
	if l, e := Candidates(graph.Graph{Nodes: 64}, 2, -1); l != nil || e != api.ErrLimit {
		t.Errorf("Candidates: %d", e)
	}
	if s, found, e := Least(graph.Graph{Nodes: 64}, 0, 0); !slices.Equal(s, []int{1}) || !found || e != api.OK {
		t.Errorf("Least = %d, %t, %d", s, found, e)
	}
	if is, e := Held(graph.Graph{Nodes: 64}, 0, -1); is || e != api.OK {
		t.Errorf("Held: %d", e)
	}
	for nodes, want := range map[int]int{0: 1, 1: 2, 3: 8, 10: 1024, 11: MaxSets + 1, 64: MaxSets + 1} {
		n, e := Count(graph.Graph{Nodes: nodes})
		expect(t, "Count", n, e, want)
	}
	links := graph.Graph{Nodes: 11}
	if l, e := Connected(graph.Graph{Nodes: 11}, links, 0, -1); l != nil || e != api.ErrLimit {
		t.Errorf("Connected: %d", e)
	}
	if l, e := Halves(graph.Graph{Nodes: 11}, links); l != nil || e != api.ErrLimit {
		t.Errorf("Halves: %d", e)
	}
	chain := graph.Graph{Nodes: 64}
	for i := range 63 {
		chain.Edges = append(chain.Edges, graph.Edge{From: i, To: i + 1})
	}
	if l, e := Candidates(chain, 0, -1); len(l) != 63 || e != api.OK {
		t.Errorf("Candidates: %d, %d", len(l), e)
	}
}

// P24.2, P24.3, P24.4
func TestMinimalCountHullPeel(t *testing.T) {
	g := graphOf(t, 4, 0, 1, 1, 0, 2, 3)
	l, e := Minimal(g)
	expect(t, "Minimal", l, e, [][]int{{0, 1}, {3}})
	n, e := Count(g)
	expect(t, "Count", n, e, 6)
	s, e := Hull(g, []int{2})
	expect(t, "Hull", s, e, []int{2, 3})
	s, e = Hull(g, nil)
	expect(t, "Hull", s, e, []int{})
	l, e = Peel(g)
	expect(t, "Peel", l, e, [][]int{{0, 1}, {3}, {2}})
	l, e = Peel(graphOf(t, 5, 0, 1, 0, 4, 3, 2, 2, 3))
	expect(t, "Peel", l, e, [][]int{{1}, {2, 3}, {4}, {0}})
	l, e = Minimal(graphOf(t, 3, 0, 1, 1, 2, 2, 0))
	expect(t, "Minimal", l, e, [][]int{})
	l, e = Minimal(graph.Graph{Nodes: 1})
	expect(t, "Minimal", l, e, [][]int{})
	l, e = Minimal(graph.Graph{Nodes: 2})
	expect(t, "Minimal", l, e, [][]int{{0}, {1}})
}

// P24.5
func TestConnectedAndHalves(t *testing.T) {
	g := graphOf(t, 4, 0, 1, 1, 0, 2, 3)
	l, e := Connected(g, graphOf(t, 4, 1, 2, 2, 3), 0, -1)
	expect(t, "Connected", l, e, [][]int{{3}, {2, 3}})
	l, e = Connected(g, graphOf(t, 4, 0, 1, 3, 1), 0, -1)
	expect(t, "Connected", l, e, [][]int{{3}, {0, 1}, {0, 1, 3}})
	l, e = Connected(g, graphOf(t, 4, 0, 1, 3, 1), 2, 3)
	expect(t, "Connected", l, e, [][]int{{0, 1}})
	l, e = Halves(g, graphOf(t, 4, 0, 1, 2, 3))
	expect(t, "Halves", l, e, [][]int{{0, 1}, {2, 3}})
	l, e = Halves(g, graphOf(t, 4, 0, 1, 1, 2))
	expect(t, "Halves", l, e, [][]int{{3}})
}

func TestErrors(t *testing.T) {
	bad := graph.Graph{Nodes: 65}
	worse := graph.Graph{Nodes: 2, Edges: []graph.Edge{{From: 1}, {}}}
	good := graph.Graph{Nodes: 3}
	for i, c := range []struct {
		g, links      graph.Graph
		most, without int
		single, both  api.Errno
	}{
		{bad, worse, -1, -2, api.ErrRange, api.ErrRange}, {worse, bad, -1, -2, api.ErrOrder, api.ErrOrder}, {good, worse, -1, -2, api.ErrRange, api.ErrOrder}, {good, graph.Graph{Nodes: 2}, -1, -2, api.ErrRange, api.ErrSize}, {good, good, -1, 0, api.ErrRange, api.ErrRange}, {good, good, 0, -2, api.ErrRange, api.ErrRange}, {good, good, 0, 3, api.ErrRange, api.ErrRange},
	} {
		l, e1 := Candidates(c.g, c.most, c.without)
		s, found, e2 := Least(c.g, c.most, c.without)
		is, e3 := Held(c.g, c.most, c.without)
		m, e4 := Connected(c.g, c.links, c.most, c.without)
		if e1 != c.single || e2 != c.single || e3 != c.single || e4 != c.both || l != nil || s != nil || found || is || m != nil {
			t.Errorf("%d: %d, %d, %d, %d", i, e1, e2, e3, e4)
		}
	}
	for _, g := range []graph.Graph{bad, worse} {
		want := graph.Check(g)
		l, e1 := Minimal(g)
		n, e2 := Count(g)
		s, e3 := Hull(g, []int{-1})
		m, e4 := Peel(g)
		h, e5 := Halves(g, bad)
		for i, e := range []api.Errno{e1, e2, e3, e4, e5} {
			if e != want {
				t.Errorf("%d: %d, not %d", i, e, want)
			}
		}
		if l != nil || n != 0 || s != nil || m != nil || h != nil {
			t.Error("the results are not zero")
		}
	}
	if l, e := Halves(good, worse); l != nil || e != api.ErrOrder {
		t.Errorf("Halves: %d", e)
	}
	if l, e := Halves(good, graph.Graph{}); l != nil || e != api.ErrSize {
		t.Errorf("Halves: %d", e)
	}
	for _, c := range []struct {
		nodes []int
		e     api.Errno
	}{{[]int{3}, api.ErrRange}, {[]int{2, 1, -1}, api.ErrRange}, {[]int{1, 1}, api.ErrOrder}} {
		if s, e := Hull(good, c.nodes); s != nil || e != c.e {
			t.Errorf("Hull(%d): %d", c.nodes, e)
		}
	}
}

// row is a scene of three unit cubes side by side along x.
func row(t *testing.T) *blocking.Scene {
	t.Helper()
	var a api.Assembly
	a.Parts = []api.Part{{Name: "cube", Density: 1, Cells: []api.Cell{{Vertices: []api.Vector{{0, 0, 0}, {0, 0, 1}, {0, 1, 0}, {0, 1, 1}, {1, 0, 0}, {1, 0, 1}, {1, 1, 0}, {1, 1, 1}}}}}}
	for i, x := range []api.Number{"0", "1", "2"} {
		a.Instances = append(a.Instances, api.Instance{Name: string(rune('a' + i)), Part: "cube", Place: api.Placement{Turn: [4]int{1, 0, 0, 0}, Shift: api.Point{x, "0", "0"}}})
	}
	s, e := blocking.Open(a)
	if e != api.OK {
		t.Fatal(e)
	}
	return s
}

// P24.6
func TestOf(t *testing.T) {
	s, x := row(t), api.Point{"1", "0", "0"}
	for _, c := range []struct {
		set           []int
		kind          int
		most, without int
		want          [][]int
	}{{[]int{0, 1, 2}, api.Far, 0, -1, [][]int{{2}, {1, 2}}}, {[]int{0, 1, 2}, api.Far, 1, -1, [][]int{{2}}}, {[]int{0, 1, 2}, api.Far, 0, 2, nil}, {[]int{0, 2}, api.Local, 0, -1, [][]int{{0}, {2}}}, {[]int{0, 2}, api.Far, 0, 0, [][]int{{2}}}, {[]int{1}, api.Far, 0, -1, nil}} {
		l, e := Of(s, c.set, x, c.kind, c.most, c.without)
		expect(t, "Of", l, e, append([][]int{}, c.want...))
	}
	for i, c := range []struct {
		s             *blocking.Scene
		set           []int
		d             api.Point
		kind          int
		most, without int
		e             api.Errno
	}{
		{nil, nil, x, 0, -1, 9, api.ErrArgument}, {s, nil, x, 0, -1, 9, api.ErrEmpty}, {s, []int{1, 0}, x, 0, -1, 9, api.ErrOrder}, {s, []int{0}, api.Point{"0", "0", "0"}, 0, -1, 9, api.ErrZero}, {s, []int{0}, x, 0, -1, 9, api.ErrKind}, {s, []int{0, 1}, x, api.Far, -1, 0, api.ErrRange}, {s, []int{0, 1}, x, api.Far, 0, 2, api.ErrRange}, {s, []int{0, 1}, x, api.Far, 0, -2, api.ErrRange},
	} {
		if l, e := Of(c.s, c.set, c.d, c.kind, c.most, c.without); l != nil || e != c.e {
			t.Errorf("%d: Of: %d, not %d", i, e, c.e)
		}
	}
}

// P24.1 to P24.7, compared with all sets.
func TestAgainstAllSets(t *testing.T) {
	r := rand.New(rand.NewSource(1))
	for range 300 {
		nodes := 1 + r.Intn(7)
		g, links := random(r, nodes, r.Intn(9)), random(r, nodes, r.Intn(9))
		most, without := r.Intn(nodes+1), r.Intn(nodes+1)-1
		want := all(g, most, without, any1)
		l, e := Candidates(g, most, without)
		expect(t, "Candidates", l, e, want)
		s, found, _ := Least(g, most, without)
		if found != (len(want) > 0) || found && !slices.Equal(s, want[0]) {
			t.Fatalf("Least = %d, not %d", s, want)
		}
		is, _ := Held(g, most, without)
		if is != (len(want) == 0) || is != heldByReach(g, most, without) {
			t.Fatalf("Held = %t: %d", is, want)
		}
		l, e = Connected(g, links, most, without)
		expect(t, "Connected", l, e, all(g, most, without, func(s set) bool { return hangsTogether(links, s) }))
		l, e = Halves(g, links)
		expect(t, "Halves", l, e, all(g, 0, -1, func(s set) bool {
			return hangsTogether(links, s) && hangsTogether(links, full(nodes)&^s)
		}))
		candidates := all(g, 0, -1, any1)
		n, e := Count(g)
		expect(t, "Count", n, e, len(candidates)+2)
		checkMinimal(t, g, candidates)
		checkPeel(t, g)
		checkHull(t, r, g, candidates)
	}
}

// heldByReach decides by what each node reaches whether there is no restricted candidate.
func heldByReach(g graph.Graph, most, without int) bool {
	bound := g.Nodes - 1
	if most > 0 {
		bound = min(bound, most)
	}
	l, _ := graph.Closure(g)
	for i, reached := range l {
		if i != without && len(reached) <= bound && !slices.Contains(reached, without) {
			return false
		}
	}
	return true
}

func checkMinimal(t *testing.T, g graph.Graph, candidates [][]int) {
	t.Helper()
	want := [][]int{}
	for _, c := range candidates {
		contains := slices.ContainsFunc(candidates, func(d []int) bool { return len(d) < len(c) && of(d)&^of(c) == 0 })
		if !contains {
			want = append(want, c)
		}
	}
	slices.SortFunc(want, func(a, b []int) int { return a[0] - b[0] })
	l, e := Minimal(g)
	expect(t, "Minimal", l, e, want)
}

func checkPeel(t *testing.T, g graph.Graph) {
	t.Helper()
	l, e := Peel(g)
	components, _ := graph.Components(g)
	if len(l) != len(components) || e != api.OK {
		t.Fatalf("Peel = %d, %d", l, e)
	}
	var gone set
	for i, c := range l {
		for _, d := range l[i:] {
			isClosed, _ := graph.Closed(g, (gone | of(d)).nodes())
			if isClosed && d[0] < c[0] {
				t.Fatalf("Peel = %d, but %d could come earlier", l, d)
			}
		}
		gone |= of(c)
		if isClosed, _ := graph.Closed(g, gone.nodes()); !isClosed {
			t.Fatalf("Peel = %d is not closed behind %d", l, c)
		}
	}
}

func checkHull(t *testing.T, r *rand.Rand, g graph.Graph, candidates [][]int) {
	t.Helper()
	s := set(r.Intn(1 << g.Nodes))
	h, e := Hull(g, s.nodes())
	isClosed, _ := graph.Closed(g, h)
	if e != api.OK || !isClosed || s&^of(h) != 0 {
		t.Fatalf("Hull(%d) = %d, %d", s.nodes(), h, e)
	}
	for _, c := range candidates {
		if s&^of(c) == 0 && of(h)&^of(c) != 0 {
			t.Fatalf("Hull(%d) = %d is not part of %d", s.nodes(), h, c)
		}
	}
}
