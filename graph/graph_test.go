package graph

import (
	"fmt"
	"math/rand"
	"slices"
	"testing"

	"dowel/api"
)

func graph(nodes int, pairs ...int) Graph {
	g := Graph{Nodes: nodes}
	for i := 0; i < len(pairs); i += 2 {
		g.Edges = append(g.Edges, Edge{pairs[i], pairs[i+1]})
	}
	return g
}

func full(nodes int) Graph {
	g := Graph{Nodes: nodes}
	for i := range nodes {
		for k := range nodes {
			g.Edges = append(g.Edges, Edge{i, k})
		}
	}
	return g
}

func random(r *rand.Rand) Graph {
	n := r.Intn(8)
	var l []Edge
	if n > 0 {
		for range r.Intn(2 * n) {
			l = append(l, Edge{r.Intn(n), r.Intn(n)})
		}
	}
	g, _ := Make(n, l)
	return g
}

func equal(a, b Graph) bool { return a.Nodes == b.Nodes && slices.Equal(a.Edges, b.Edges) }

func expect(t *testing.T, what string, got any, e api.Errno, want any) {
	t.Helper()
	if a, b := fmt.Sprint(got), fmt.Sprint(want); a != b || e != api.OK {
		t.Errorf("%s = %s, %d, not %s", what, a, e, b)
	}
}

// invalid returns graphs that are not valid, with their errors.
func invalid() map[string]Graph {
	return map[string]Graph{"range": {Nodes: 65}, "negative": {Nodes: -1}, "limit": graph(1, 0, 0, 5, 5), "edge": graph(2, 1, 0, 0, 2), "order": graph(2, 1, 0, 0, 1), "twice": graph(2, 0, 1, 0, 1)}
}

var errors = map[string]api.Errno{"range": api.ErrRange, "negative": api.ErrRange, "limit": api.ErrLimit, "edge": api.ErrRange, "order": api.ErrOrder, "twice": api.ErrOrder}

// P10.1
func TestMakeAndCheck(t *testing.T) {
	g, e := Make(3, []Edge{{2, 1}, {0, 2}, {2, 1}, {0, 0}, {0, 2}})
	if !equal(g, graph(3, 0, 0, 0, 2, 2, 1)) || e != api.OK || Check(g) != api.OK {
		t.Errorf("Make = %v, %d", g, e)
	}
	for i, c := range []struct {
		nodes int
		edges []Edge
		e     api.Errno
	}{{-1, nil, api.ErrRange}, {65, nil, api.ErrRange}, {0, nil, api.OK}, {64, []Edge{{63, 63}}, api.OK}, {64, []Edge{{64, 0}}, api.ErrRange}, {2, []Edge{{0, 2}}, api.ErrRange}, {2, []Edge{{0, -1}}, api.ErrRange}, {2, []Edge{{-1, 0}}, api.ErrRange}, {0, []Edge{{0, 0}}, api.ErrRange}} {
		if g, e := Make(c.nodes, c.edges); e != c.e || e != api.OK && !equal(g, Graph{}) {
			t.Errorf("%d: Make: %d", i, e)
		}
	}
	for name, g := range invalid() {
		if e := Check(g); e != errors[name] {
			t.Errorf("Check of %s: %d", name, e)
		}
	}
	for _, g := range []Graph{{}, full(64), graph(2, 0, 0, 0, 1, 1, 0)} {
		if e := Check(g); e != api.OK {
			t.Errorf("Check: %d", e)
		}
	}
	if e := Check(graph(2, 0, 1, 5, 5, 0, 0, 0, 0, 0, 0)); e != api.ErrLimit {
		t.Errorf("Check: %d", e)
	}
	if e := Check(graph(3, 1, 0, 0, 1, 3, 3)); e != api.ErrRange {
		t.Errorf("Check: %d", e)
	}
}

func TestErrorsOfGraphs(t *testing.T) {
	for name, g := range invalid() {
		var l [15]api.Errno
		var zero [15]bool
		r, e := Reverse(g)
		l[0], zero[0] = e, equal(r, Graph{})
		r, e = Induced(g, []int{-1})
		l[1], zero[1] = e, equal(r, Graph{})
		s, e := Reach(g, []int{-1})
		l[2], zero[2] = e, s == nil
		c, e := Closure(g)
		l[3], zero[3] = e, c == nil
		is, e := Closed(g, []int{-1})
		l[4], zero[4] = e, !is
		c, e = Components(g)
		l[5], zero[5] = e, c == nil
		r, s, e = Condense(g)
		l[6], zero[6] = e, equal(r, Graph{}) && s == nil
		c, e = Sinks(g)
		l[7], zero[7] = e, c == nil
		c, e = Parts(g)
		l[8], zero[8] = e, c == nil
		s, e = Order(g)
		l[9], zero[9] = e, s == nil
		s, e = Cycle(g)
		l[10], zero[10] = e, s == nil
		s, e = Tree(g, -1)
		l[11], zero[11] = e, s == nil
		s, e = Back(g, -1)
		l[12], zero[12] = e, s == nil
		s, e = Path(g, -1, -1)
		l[13], zero[13] = e, s == nil
		l[14], zero[14] = Check(g), true
		for i := range l {
			if l[i] != errors[name] || !zero[i] {
				t.Errorf("%s, %d: %d", name, i, l[i])
			}
		}
	}
	g := graph(3, 0, 1)
	for _, c := range []struct {
		nodes []int
		e     api.Errno
	}{{[]int{0, 3}, api.ErrRange}, {[]int{-1}, api.ErrRange}, {[]int{1, 1, 3}, api.ErrRange}, {[]int{1, 0}, api.ErrOrder}, {[]int{1, 1}, api.ErrOrder}} {
		if r, e := Induced(g, c.nodes); e != c.e || !equal(r, Graph{}) {
			t.Errorf("Induced(%d): %d", c.nodes, e)
		}
		if s, e := Reach(g, c.nodes); e != c.e || s != nil {
			t.Errorf("Reach(%d): %d", c.nodes, e)
		}
		if is, e := Closed(g, c.nodes); e != c.e || is {
			t.Errorf("Closed(%d): %d", c.nodes, e)
		}
	}
	for _, n := range []int{-1, 3} {
		_, e1 := Tree(g, n)
		_, e2 := Back(g, n)
		_, e3 := Path(g, n, 0)
		_, e4 := Path(g, 0, n)
		if e1 != api.ErrRange || e2 != api.ErrRange || e3 != api.ErrRange || e4 != api.ErrRange {
			t.Errorf("%d: %d, %d, %d, %d", n, e1, e2, e3, e4)
		}
	}
}

// P10.2
func TestReverseAndInduced(t *testing.T) {
	g := graph(4, 0, 1, 1, 0, 1, 2, 3, 2, 3, 3)
	r, e := Reverse(g)
	expect(t, "Reverse", r, e, graph(4, 0, 1, 1, 0, 2, 1, 2, 3, 3, 3))
	r, e = Induced(g, []int{1, 2, 3})
	expect(t, "Induced", r, e, graph(3, 0, 1, 2, 1, 2, 2))
	r, e = Induced(g, nil)
	expect(t, "Induced", r, e, Graph{})
	r, e = Induced(g, []int{0, 3})
	expect(t, "Induced", r, e, graph(2, 1, 1))
}

// P10.3
func TestReachClosureClosed(t *testing.T) {
	g := graph(4, 0, 1, 1, 0, 1, 2, 3, 2)
	for _, c := range []struct{ from, to []int }{{[]int{3}, []int{2, 3}}, {[]int{0}, []int{0, 1, 2}}, {[]int{2}, []int{2}}, {nil, nil}, {[]int{0, 3}, []int{0, 1, 2, 3}}} {
		l, e := Reach(g, c.from)
		expect(t, "Reach", l, e, c.to)
	}
	l, e := Closure(g)
	expect(t, "Closure", l, e, [][]int{{0, 1, 2}, {0, 1, 2}, {2}, {2, 3}})
	for _, c := range []struct {
		nodes []int
		is    bool
	}{{[]int{2, 3}, true}, {nil, true}, {[]int{0, 1}, false}, {[]int{0, 1, 2}, true}, {[]int{3}, false}, {[]int{0, 1, 2, 3}, true}} {
		is, e := Closed(g, c.nodes)
		expect(t, "Closed", is, e, c.is)
	}
}

// P10.4
func TestComponents(t *testing.T) {
	g := graph(4, 0, 1, 1, 0, 1, 2, 3, 2)
	l, e := Components(g)
	expect(t, "Components", l, e, [][]int{{0, 1}, {2}, {3}})
	c, of, e := Condense(g)
	expect(t, "Condense", c, e, graph(3, 0, 1, 2, 1))
	expect(t, "Condense", of, e, []int{0, 0, 1, 2})
	l, e = Sinks(g)
	expect(t, "Sinks", l, e, [][]int{{2}})
	l, e = Parts(g)
	expect(t, "Parts", l, e, [][]int{{0, 1, 2, 3}})
	l, e = Parts(graph(5, 0, 4, 3, 1))
	expect(t, "Parts", l, e, [][]int{{0, 4}, {1, 3}, {2}})
	l, e = Components(graph(5, 0, 3, 1, 1, 3, 4, 4, 0))
	expect(t, "Components", l, e, [][]int{{0, 3, 4}, {1}, {2}})
	l, e = Sinks(graph(3, 0, 0, 1, 2, 2, 1))
	expect(t, "Sinks", l, e, [][]int{{0}, {1, 2}})
	l, e = Components(full(64))
	if len(l) != 1 || len(l[0]) != 64 || e != api.OK {
		t.Errorf("Components of all edges = %d", l)
	}
	c, of, e = Condense(Graph{})
	expect(t, "Condense", c, e, Graph{})
	expect(t, "Condense", of, e, []int{})
}

// P10.5
func TestOrderAndCycle(t *testing.T) {
	l, e := Order(graph(4, 0, 1, 1, 2, 3, 2))
	expect(t, "Order", l, e, []int{0, 1, 3, 2})
	l, e = Order(graph(4, 2, 1, 3, 0))
	expect(t, "Order", l, e, []int{2, 1, 3, 0})
	l, e = Order(Graph{})
	expect(t, "Order", l, e, []int{})
	for _, g := range []Graph{graph(1, 0, 0), graph(3, 0, 1, 1, 0), graph(4, 0, 1, 1, 2, 2, 3, 3, 1)} {
		if l, e := Order(g); e != api.ErrCycle || l != nil {
			t.Errorf("Order = %d, %d", l, e)
		}
	}
	for _, c := range []struct {
		g    Graph
		want []int
	}{
		{graph(4, 0, 1, 1, 0, 1, 2, 3, 2), []int{0, 1}}, {graph(3, 0, 1, 1, 0, 2, 2), []int{2}}, {graph(4, 0, 1, 1, 2, 2, 3, 3, 1), []int{1, 2, 3}}, {graph(5, 0, 2, 0, 3, 2, 4, 3, 4, 4, 0), []int{0, 2, 4}}, {graph(4, 0, 1, 1, 2, 2, 0, 2, 3, 3, 2), []int{2, 3}},
	} {
		l, e := Cycle(c.g)
		expect(t, "Cycle", l, e, c.want)
	}
	if l, e := Cycle(graph(4, 0, 1, 1, 2, 3, 2)); e != api.ErrNotFound || l != nil {
		t.Errorf("Cycle = %d, %d", l, e)
	}
}

// P10.6
func TestTreeBackPath(t *testing.T) {
	g := graph(4, 0, 1, 1, 0, 1, 2, 3, 2)
	l, e := Tree(g, 0)
	expect(t, "Tree", l, e, []int{-1, 0, 1, -1})
	l, e = Back(g, 2)
	expect(t, "Back", l, e, []int{1, 2, -1, 2})
	diamond := graph(5, 0, 2, 0, 3, 2, 4, 3, 1, 3, 4, 4, 1)
	l, e = Path(diamond, 0, 4)
	expect(t, "Path", l, e, []int{0, 2, 4})
	l, e = Path(diamond, 0, 1)
	expect(t, "Path", l, e, []int{0, 3, 1})
	l, e = Path(diamond, 3, 3)
	expect(t, "Path", l, e, []int{3})
	l, e = Tree(diamond, 0)
	expect(t, "Tree", l, e, []int{-1, 3, 0, 0, 2})
	l, e = Back(diamond, 1)
	expect(t, "Back", l, e, []int{3, -1, 4, 1, 1})
	if l, e := Path(diamond, 1, 0); e != api.ErrNotFound || l != nil {
		t.Errorf("Path = %d, %d", l, e)
	}
}

// paths returns all paths without a node that occurs twice, from a node, by trying.
func paths(g Graph, path []int) [][]int {
	l := [][]int{slices.Clone(path)}
	for _, e := range g.Edges {
		if e.From == path[len(path)-1] && !slices.Contains(path, e.To) {
			l = append(l, paths(g, append(slices.Clone(path), e.To))...)
		}
	}
	return l
}

// first returns the first of the shortest lists that a function accepts.
func first(l [][]int, accepts func([]int) bool) []int {
	var best []int
	for _, p := range l {
		if accepts(p) && (best == nil || len(p) < len(best) || len(p) == len(best) && slices.Compare(p, best) < 0) {
			best = p
		}
	}
	return best
}

// P10.3 to P10.7, compared with all paths.
func TestAgainstAllPaths(t *testing.T) {
	r := rand.New(rand.NewSource(1))
	for range 500 {
		g := random(r)
		closed, _ := Closure(g)
		reversed, _ := Reverse(g)
		back, _ := Closure(reversed)
		var all [][]int
		for i := range g.Nodes {
			from := paths(g, []int{i})
			all = append(all, from...)
			tree, _ := Tree(g, i)
			for k := range g.Nodes {
				best := first(from, func(p []int) bool { return p[len(p)-1] == k })
				path, e := Path(g, i, k)
				if !slices.Equal(path, best) || (e == api.OK) != (best != nil) || slices.Contains(closed[i], k) != (best != nil) || slices.Contains(back[k], i) != (best != nil) {
					t.Fatalf("%v: the path from %d to %d is %d, %d", g, i, k, path, e)
				}
				before, behind := -1, -1
				if len(best) > 1 {
					before, behind = best[len(best)-2], best[1]
				}
				if to, _ := Back(g, k); tree[k] != before || to[i] != behind {
					t.Fatalf("%v: Tree from %d, Back to %d", g, i, k)
				}
			}
		}
		cycle := first(all, func(p []int) bool { return slices.Contains(g.Edges, Edge{p[len(p)-1], p[0]}) })
		if c, e := Cycle(g); !slices.Equal(c, cycle) || (e == api.OK) != (cycle != nil) {
			t.Fatalf("%v: the cycle is %d, %d", g, c, e)
		}
		checkComponents(t, g, closed)
		checkOrder(t, g, len(cycle) > 0 && !isLoop(g))
	}
}

func isLoop(g Graph) bool {
	return slices.ContainsFunc(g.Edges, func(e Edge) bool { return e.From == e.To })
}

func checkComponents(t *testing.T, g Graph, closed [][]int) {
	t.Helper()
	l, e := Components(g)
	condensed, of, e2 := Condense(g)
	if e != api.OK || e2 != api.OK || Check(condensed) != api.OK || condensed.Nodes != len(l) {
		t.Fatalf("%v: %d, %d", g, e, e2)
	}
	for i := range g.Nodes {
		for k := range g.Nodes {
			isSame := slices.Contains(closed[i], k) && slices.Contains(closed[k], i)
			if isSame != slices.Contains(l[of[i]], k) || isSame != (of[i] == of[k]) {
				t.Fatalf("%v: the components are %d", g, l)
			}
		}
	}
	if !slices.IsSortedFunc(l, func(a, b []int) int { return a[0] - b[0] }) {
		t.Fatalf("%v: the components %d are not in order", g, l)
	}
	if _, e := Order(condensed); e != api.OK {
		t.Fatalf("%v: the condensation %v has a cycle", g, condensed)
	}
	sinks, _ := Sinks(g)
	for _, c := range l {
		isClosed, _ := Closed(g, c)
		if isClosed != slices.ContainsFunc(sinks, func(s []int) bool { return slices.Equal(s, c) }) {
			t.Fatalf("%v: the sinks are %d", g, sinks)
		}
	}
	if len(sinks) == 0 && g.Nodes > 0 {
		t.Fatalf("%v has no sink", g)
	}
}

func checkOrder(t *testing.T, g Graph, hasCycle bool) {
	t.Helper()
	l, e := Order(g)
	if hasCycle && e != api.ErrCycle || isLoop(g) && e != api.ErrCycle {
		t.Fatalf("%v: the order is %d, %d", g, l, e)
	}
	for i, n := range l {
		for _, m := range l[:i] {
			if slices.Contains(g.Edges, Edge{n, m}) {
				t.Fatalf("%v: the order is %d", g, l)
			}
		}
	}
}

func TestArgumentsRemain(t *testing.T) {
	edges := []Edge{{1, 0}, {0, 1}}
	g, _ := Make(2, edges)
	g.Edges[0].From = 1
	if edges[0] != (Edge{1, 0}) || edges[1] != (Edge{0, 1}) {
		t.Error("Make has changed its argument")
	}
	h := graph(3, 0, 1, 1, 2)
	Cycle(h)
	Sinks(h)
	if !equal(h, graph(3, 0, 1, 1, 2)) {
		t.Error("an argument has changed")
	}
}
