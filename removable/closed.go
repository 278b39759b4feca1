package removable

import (
	"iter"
	"math/bits"
	"slices"

	"dowel/graph"
)

// set is a set of nodes, as bits.
type set uint64

func of(nodes []int) set {
	var s set
	for _, n := range nodes {
		s |= 1 << n
	}
	return s
}

// full returns the set of so many nodes.
func full(nodes int) set { return 1<<nodes - 1 }

func (s set) size() int { return bits.OnesCount64(uint64(s)) }

// nodes returns the nodes of a set in increasing order.
func (s set) nodes() []int {
	l := make([]int, 0, s.size())
	for ; s != 0; s &= s - 1 {
		l = append(l, bits.TrailingZeros64(uint64(s)))
	}
	return l
}

// compare orders sets with equally many nodes: where they differ first, the one that has the lesser node comes first.
func compare(a, b set) int {
	if a == b {
		return 0
	}
	if differ := a ^ b; differ&-differ&a != 0 {
		return -1
	}
	return 1
}

// hull returns the nodes that those of a set reach.
func hull(g graph.Graph, s set) set {
	l, _ := graph.Reach(g, s.nodes())
	return of(l)
}

// closed yields the closed sets of a valid graph that are not empty, and do not contain a node (-1: all of them), in order. Each of them is one with fewer nodes and the hull of a further node; so the sets with more nodes are found while those with fewer ones are yielded.
func closed(g graph.Graph, without int) iter.Seq[set] {
	return func(yield func(set) bool) {
		hulls := make([]set, g.Nodes)
		for i := range hulls {
			hulls[i] = hull(g, 1<<i)
		}
		var bySize [graph.MaxNodes + 1][]set
		found := map[set]bool{}
		grow := func(s set) {
			for _, h := range hulls {
				larger := s | h
				if larger == s || found[larger] || without >= 0 && larger>>without&1 == 1 {
					continue
				}
				found[larger] = true
				bySize[larger.size()] = append(bySize[larger.size()], larger)
			}
		}
		grow(0)
		for size := 1; size <= g.Nodes; size++ {
			slices.SortFunc(bySize[size], func(a, b set) int { return compare(a, b) })
			for _, s := range bySize[size] {
				if !yield(s) {
					return
				}
				grow(s)
			}
		}
	}
}

// hangsTogether reports whether the nodes of a set, not empty, are connected by links between them.
func hangsTogether(links graph.Graph, s set) bool {
	between, _ := graph.Induced(links, s.nodes())
	parts, _ := graph.Parts(between)
	return len(parts) == 1
}
