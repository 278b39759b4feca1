package liaison

import (
	"fmt"
	"math/rand"
	"slices"
	"strings"
	"testing"

	"dowel/api"
	"dowel/graph"
)

// both returns the graph with some edges in both directions.
func both(nodes int, pairs ...int) graph.Graph {
	var l []graph.Edge
	for i := 0; i < len(pairs); i += 2 {
		l = append(l, graph.Edge{From: pairs[i], To: pairs[i+1]}, graph.Edge{From: pairs[i+1], To: pairs[i]})
	}
	g, _ := graph.Make(nodes, l)
	return g
}

func chain() graph.Graph { return both(4, 0, 1, 1, 2, 2, 3) }

func expect(t *testing.T, what string, got any, e api.Errno, want any) {
	t.Helper()
	if a, b := fmt.Sprint(got), fmt.Sprint(want); a != b || e != api.OK {
		t.Errorf("%s = %s, %d, not %s", what, a, e, b)
	}
}

// boxes returns an assembly of boxes, each given by its corners, with densities 1, 2 and so on.
func boxes(l ...[6]int) api.Assembly {
	var a api.Assembly
	for i, b := range l {
		name := string(rune('a' + i))
		x, y, z, u, v, w := b[0], b[1], b[2], b[3], b[4], b[5]
		a.Parts = append(a.Parts, api.Part{Name: name, Density: 1, Cells: []api.Cell{{Vertices: []api.Vector{{x, y, z}, {x, y, w}, {x, v, z}, {x, v, w}, {u, y, z}, {u, y, w}, {u, v, z}, {u, v, w}}}}})
		a.Instances = append(a.Instances, api.Instance{Name: name, Part: name, Place: api.Placement{Turn: [4]int{1, 0, 0, 0}, Shift: api.Point{"0", "0", "0"}}})
	}
	return a
}

// P29.1
func TestOfAndCheck(t *testing.T) {
	g, e := Of(boxes([6]int{0, 0, 0, 1, 1, 1}, [6]int{5, 0, 0, 6, 1, 1}, [6]int{1, 1, 1, 2, 2, 2}, [6]int{2, 1, 1, 3, 2, 2}))
	expect(t, "Of", g, e, both(4, 0, 2, 2, 3))
	if g, e := Of(boxes([6]int{0, 0, 0, 1, 1, 1}, [6]int{0, 0, 0, 1, 1, 1})); g.Nodes != 0 || e != api.ErrPenetrate {
		t.Errorf("Of: %d", e)
	}
	for i, c := range []struct {
		g graph.Graph
		e api.Errno
	}{
		{chain(), api.OK}, {graph.Graph{}, api.OK}, {graph.Graph{Nodes: 12}, api.OK}, {graph.Graph{Nodes: 65}, api.ErrRange}, {graph.Graph{Nodes: 13, Edges: []graph.Edge{{From: 1, To: 1}}}, api.ErrLimit}, {graph.Graph{Nodes: 2, Edges: []graph.Edge{{From: 1, To: 0}, {From: 0, To: 1}}}, api.ErrOrder}, {graph.Graph{Nodes: 2, Edges: []graph.Edge{{From: 0, To: 0}, {From: 0, To: 1}}}, api.ErrConflict}, {graph.Graph{Nodes: 2, Edges: []graph.Edge{{From: 0, To: 1}, {From: 1, To: 1}}}, api.ErrNotFound},
	} {
		if e := Check(c.g); e != c.e {
			t.Errorf("%d: Check: %d, not %d", i, e, c.e)
		}
		if c.e == api.OK {
			continue
		}
		is, e1 := Connected(c.g, nil)
		p, e2 := Pieces(c.g, nil)
		n, e3 := Neighbours(c.g, nil)
		s, e4 := Subsets(c.g, nil, -1)
		k, e5 := Cuts(c.g, nil)
		j, e6 := Joints(c.g, nil)
		l, e7 := Loose(c.g, make([]Group, 33))
		for k, e := range []api.Errno{e1, e2, e3, e4, e5, e6, e7} {
			if e != c.e {
				t.Errorf("%d, %d: %d, not %d", i, k, e, c.e)
			}
		}
		if is || p != nil || n != nil || s != nil || k != nil || j != nil || l != nil {
			t.Errorf("%d: the results are not zero", i)
		}
	}
	for _, c := range []struct {
		set []int
		e   api.Errno
	}{{nil, api.ErrEmpty}, {[]int{4}, api.ErrRange}, {[]int{-1}, api.ErrRange}, {[]int{1, 0, 9}, api.ErrOrder}, {[]int{0, 0}, api.ErrOrder}} {
		_, e1 := Connected(chain(), c.set)
		_, e2 := Pieces(chain(), c.set)
		_, e3 := Neighbours(chain(), c.set)
		_, e4 := Subsets(chain(), c.set, 0)
		_, e5 := Cuts(chain(), c.set)
		_, e6 := Joints(chain(), c.set)
		for i, e := range []api.Errno{e1, e2, e3, e4, e5, e6} {
			if e != c.e {
				t.Errorf("%d, %d: %d, not %d", c.set, i, e, c.e)
			}
		}
	}
}

// P29.2
func TestConnectedPiecesNeighbours(t *testing.T) {
	for _, c := range []struct {
		set    []int
		pieces [][]int
		next   []int
	}{{[]int{0, 1, 3}, [][]int{{0, 1}, {3}}, []int{2}}, {[]int{0, 1, 2, 3}, [][]int{{0, 1, 2, 3}}, []int{}}, {[]int{0, 2}, [][]int{{0}, {2}}, []int{1, 3}}, {[]int{1}, [][]int{{1}}, []int{0, 2}}} {
		p, e := Pieces(chain(), c.set)
		expect(t, "Pieces", p, e, c.pieces)
		is, e := Connected(chain(), c.set)
		expect(t, "Connected", is, e, len(c.pieces) == 1)
		n, e := Neighbours(chain(), c.set)
		expect(t, "Neighbours", n, e, c.next)
	}
}

// P29.3
func TestSubsetsCutsJoints(t *testing.T) {
	s, e := Subsets(chain(), []int{0, 1, 2}, 2)
	expect(t, "Subsets", s, e, [][]int{{0}, {1}, {2}, {0, 1}, {1, 2}})
	s, e = Subsets(both(5, 0, 4, 4, 2, 2, 3), []int{0, 2, 3, 4}, 4)
	expect(t, "Subsets", s, e, [][]int{{0}, {2}, {3}, {4}, {0, 4}, {2, 3}, {2, 4}, {0, 2, 4}, {2, 3, 4}, {0, 2, 3, 4}})
	for _, most := range []int{0, -1, 4} {
		if s, e := Subsets(chain(), []int{0, 1, 2}, most); s != nil || e != api.ErrRange {
			t.Errorf("Subsets(%d): %d", most, e)
		}
	}
	c, e := Cuts(chain(), []int{0, 1, 2, 3})
	expect(t, "Cuts", c, e, []Cut{{[]int{0}, []int{1, 2, 3}}, {[]int{0, 1}, []int{2, 3}}, {[]int{0, 1, 2}, []int{3}}})
	c, e = Cuts(both(3, 0, 1, 0, 2), []int{0, 1, 2})
	expect(t, "Cuts", c, e, []Cut{{[]int{0, 1}, []int{2}}, {[]int{0, 2}, []int{1}}})
	c, e = Cuts(chain(), []int{2})
	expect(t, "Cuts", c, e, []Cut{})
	j, e := Joints(chain(), []int{0, 1, 2, 3})
	expect(t, "Joints", j, e, []int{1, 2})
	j, e = Joints(chain(), []int{1, 2})
	expect(t, "Joints", j, e, []int{})
	j, e = Joints(both(4, 0, 1, 1, 2, 2, 0, 2, 3), []int{0, 1, 2, 3})
	expect(t, "Joints", j, e, []int{2})
	if c, e := Cuts(chain(), []int{0, 2}); c != nil || e != api.ErrConflict {
		t.Errorf("Cuts: %d", e)
	}
	if j, e := Joints(chain(), []int{0, 2}); j != nil || e != api.ErrConflict {
		t.Errorf("Joints: %d", e)
	}
}

// P29.4
func TestBase(t *testing.T) {
	a := boxes([6]int{0, 0, 0, 1, 1, 1}, [6]int{1, 0, 0, 2, 1, 1}, [6]int{2, 0, 0, 3, 1, 1}, [6]int{3, 0, 0, 6, 1, 1})
	for _, c := range []struct {
		set  []int
		want int
	}{{[]int{0, 1, 2, 3}, 1}, {[]int{2, 3}, 3}, {[]int{0, 2, 3}, 3}, {[]int{0, 2}, 0}, {[]int{0, 1, 3}, 0}, {[]int{2}, 2}, {[]int{1, 2, 3}, 2}} {
		i, e := Base(a, c.set)
		expect(t, "Base", i, e, c.want)
	}
	heavy := boxes([6]int{0, 0, 0, 1, 1, 1}, [6]int{1, 0, 0, 2, 1, 1})
	heavy.Parts[1].Density = 2
	i, e := Base(heavy, []int{0, 1})
	expect(t, "Base", i, e, 1)
	thick := boxes([6]int{0, 0, 0, 1, 1, 1}, [6]int{0, 0, 0, 1, 1, 1})
	for i, c := range []struct {
		a   api.Assembly
		set []int
		e   api.Errno
	}{{thick, nil, api.ErrPenetrate}, {a, nil, api.ErrEmpty}, {a, []int{4}, api.ErrRange}, {a, []int{1, 0}, api.ErrOrder}} {
		if k, e := Base(c.a, c.set); k != 0 || e != c.e {
			t.Errorf("%d: Base: %d, not %d", i, e, c.e)
		}
	}
}

func group(name string, members ...int) Group { return Group{name, members} }

// P29.5
func TestCheckGroups(t *testing.T) {
	good := []Group{group("a", 0, 1), group("b", 0, 1, 2), group("c", 3, 4)}
	for i, c := range []struct {
		l []Group
		n int
		e api.Errno
	}{
		{good, 5, api.OK}, {nil, 0, api.OK}, {nil, 12, api.OK}, {[]Group{good[1], good[0]}, 3, api.OK}, {[]Group{group("~!", 0, 1)}, 2, api.OK},
		{make([]Group, 33), -1, api.ErrRange}, {nil, 13, api.ErrRange}, {make([]Group, 33), 5, api.ErrLimit}, {[]Group{group("", 9)}, 5, api.ErrName}, {[]Group{group("a b", 9)}, 5, api.ErrName}, {[]Group{group(strings.Repeat("a", 41), 9)}, 5, api.ErrName}, {[]Group{group("a", 0, 1), group("a", 9)}, 5, api.ErrDuplicate}, {[]Group{group("a", 9)}, 5, api.ErrEmpty}, {[]Group{group("a")}, 5, api.ErrEmpty}, {[]Group{group("a", 0, 5)}, 5, api.ErrRange}, {[]Group{group("a", 1, 0, 9)}, 5, api.ErrOrder}, {[]Group{group("a", 1, 1)}, 5, api.ErrOrder}, {[]Group{group("a", 0, 1), group("b", 0, 1)}, 5, api.ErrDuplicate}, {append(slices.Clone(good), group("d", 2, 3)), 5, api.ErrConflict}, {[]Group{group("a", 0, 1), group("b", 1, 2)}, 5, api.ErrConflict},
	} {
		if e := CheckGroups(c.l, c.n); e != c.e {
			t.Errorf("%d: CheckGroups: %d, not %d", i, e, c.e)
		}
		if c.e == api.OK {
			continue
		}
		p, e1 := Parents(c.l, c.n)
		o, e2 := Order(c.l, c.n)
		w, e3 := Own(c.l, c.n, -1)
		if e1 != c.e || e2 != c.e || e3 != c.e || p != nil || o != nil || w != nil {
			t.Errorf("%d: %d, %d, %d", i, e1, e2, e3)
		}
		if l, e := Loose(graph.Graph{Nodes: max(0, min(c.n, 12))}, c.l); c.n >= 0 && c.n < 13 && (l != nil || e != c.e) {
			t.Errorf("%d: Loose: %d", i, e)
		}
	}
}

// P29.5
func TestHierarchy(t *testing.T) {
	good := []Group{group("a", 0, 1), group("b", 0, 1, 2), group("c", 3, 4)}
	p, e := Parents(good, 5)
	expect(t, "Parents", p, e, []int{1, -1, -1})
	o, e := Order(good, 5)
	expect(t, "Order", o, e, []int{0, 2, 1})
	w, e := Own(good, 5, 1)
	expect(t, "Own", w, e, []int{2})
	w, e = Own(good, 5, 0)
	expect(t, "Own", w, e, []int{0, 1})
	deep := []Group{group("d", 0, 1, 2, 3, 4), group("a", 0, 1), group("b", 0, 1, 2), group("c", 3, 4)}
	p, e = Parents(deep, 5)
	expect(t, "Parents", p, e, []int{-1, 2, 0, 0})
	w, e = Own(deep, 5, 0)
	expect(t, "Own", w, e, []int{})
	for _, i := range []int{-1, 3} {
		if w, e := Own(good, 5, i); w != nil || e != api.ErrNotFound {
			t.Errorf("Own: %d", e)
		}
	}
	l, e := Loose(both(5, 0, 1, 1, 2), good)
	expect(t, "Loose", l, e, []int{2})
	l, e = Loose(both(5, 0, 2, 3, 4), good)
	expect(t, "Loose", l, e, []int{0, 1})
}

// P29.6
func TestConsequences(t *testing.T) {
	r := rand.New(rand.NewSource(1))
	for range 200 {
		n := 2 + r.Intn(6)
		var pairs []int
		for range r.Intn(2 * n) {
			if i, k := r.Intn(n), r.Intn(n); i != k {
				pairs = append(pairs, i, k)
			}
		}
		g := both(n, pairs...)
		all := of(nil)
		for i := range n {
			all |= single(i)
		}
		isConnected, _ := Connected(g, all.list())
		pieces, _ := Pieces(g, all.list())
		parts, _ := graph.Parts(g)
		if fmt.Sprint(pieces) != fmt.Sprint(parts) || isConnected != (len(pieces) == 1) {
			t.Fatalf("Pieces = %d, not %d", pieces, parts)
		}
		subsets, _ := Subsets(g, all.list(), n)
		checkSubsets(t, g, all, subsets)
		if !isConnected {
			continue
		}
		cuts, _ := Cuts(g, all.list())
		joints, _ := Joints(g, all.list())
		count := 0
		for _, s := range subsets {
			rest := all &^ of(s)
			if isRest, _ := Connected(g, rest.list()); rest != 0 && isRest && of(s).has(0) {
				count++
			}
		}
		if len(cuts) != count || len(joints) == n {
			t.Fatalf("%d cuts, not %d; the joints are %d", len(cuts), count, joints)
		}
		for i := range n {
			p, _ := Pieces(g, (all &^ single(i)).list())
			if slices.Contains(joints, i) != (len(p) > 1) {
				t.Fatalf("the joints are %d", joints)
			}
		}
	}
}

func checkSubsets(t *testing.T, g graph.Graph, all set, subsets [][]int) {
	t.Helper()
	count := 0
	for s := set(1); s <= all; s++ {
		if is, _ := Connected(g, s.list()); is {
			count++
		}
	}
	isSorted := slices.IsSortedFunc(subsets, func(a, b []int) int {
		if len(a) != len(b) {
			return len(a) - len(b)
		}
		return slices.Compare(a, b)
	})
	if len(subsets) != count || !isSorted {
		t.Fatalf("%d subsets, not %d", len(subsets), count)
	}
}
