package liaison

import (
	"iter"
	"math/bits"

	"dowel/api"
	"dowel/graph"
)

// set is a set of nodes, as bits.
type set uint

func single(i int) set { return 1 << i }

func of(l []int) set {
	var s set
	for _, i := range l {
		s |= single(i)
	}
	return s
}

func (s set) size() int { return bits.OnesCount(uint(s)) }

func (s set) has(i int) bool { return s&single(i) != 0 }

// list returns the nodes of a set in increasing order.
func (s set) list() []int {
	l := make([]int, 0, s.size())
	for ; s != 0; s &= s - 1 {
		l = append(l, bits.TrailingZeros(uint(s)))
	}
	return l
}

// subsets yields the subsets with 1 to most elements: those with fewer ones first, of the same number in lexicographic order.
func (s set) subsets(most int) iter.Seq[set] {
	return func(yield func(set) bool) {
		for size := 1; size <= most; size++ {
			if !choose(s, 0, size, yield) {
				return
			}
		}
	}
}

// choose yields all sets of some chosen elements and so many further ones; false if it shall end.
func choose(from, chosen set, size int, yield func(set) bool) bool {
	if size == 0 {
		return yield(chosen)
	}
	for from.size() >= size {
		least := from & -from
		from &^= least
		if !choose(from, chosen|least, size-1, yield) {
			return false
		}
	}
	return true
}

// links has for each node its neighbours.
type links [api.MaxInstances]set

func linksOf(g graph.Graph) links {
	var l links
	for _, e := range g.Edges {
		l[e.From] |= single(e.To)
	}
	return l
}

// next returns the neighbours of all nodes of a set.
func (l links) next(s set) set {
	var to set
	for _, i := range s.list() {
		to |= l[i]
	}
	return to
}

// piece returns the piece of a set, not empty, to which its least node belongs.
func (l links) piece(s set) set {
	piece := s & -s
	for {
		larger := piece | l.next(piece)&s
		if larger == piece {
			return piece
		}
		piece = larger
	}
}

func (l links) isConnected(s set) bool { return l.piece(s) == s }
