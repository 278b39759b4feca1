package graph

import "math/bits"

// set is a set of nodes, as bits.
type set uint64

func single(node int) set { return 1 << node }

func (s set) has(node int) bool { return s&single(node) != 0 }

// list returns the nodes of a set in increasing order.
func (s set) list() []int {
	l := make([]int, 0, bits.OnesCount64(uint64(s)))
	for ; s != 0; s &= s - 1 {
		l = append(l, bits.TrailingZeros64(uint64(s)))
	}
	return l
}

func lists(l []set) [][]int {
	all := make([][]int, len(l))
	for i, s := range l {
		all[i] = s.list()
	}
	return all
}

// links has for each node the nodes to which it leads.
type links [MaxNodes]set

// next returns the nodes to which edges lead.
func next(g Graph) *links {
	l := new(links)
	for _, e := range g.Edges {
		l[e.From] |= single(e.To)
	}
	return l
}

// previous returns the nodes from which edges come.
func previous(g Graph) *links {
	l := new(links)
	for _, e := range g.Edges {
		l[e.To] |= single(e.From)
	}
	return l
}

// step returns the nodes to which those of a set lead.
func (l *links) step(s set) set {
	var to set
	for _, n := range s.list() {
		to |= l[n]
	}
	return to
}

// reach returns the nodes that those of a set reach.
func (l *links) reach(s set) set {
	for fresh := s; fresh != 0; {
		fresh = l.step(fresh) &^ s
		s |= fresh
	}
	return s
}

// closure returns for each node the nodes that it reaches.
func closure(g Graph) []set {
	after := next(g)
	l := make([]set, g.Nodes)
	for i := range l {
		l[i] = after.reach(single(i))
	}
	return l
}

// distances returns the lengths of the shortest paths from all nodes to one; -1 if there is none.
func distances(g Graph, to int) [MaxNodes]int {
	var away [MaxNodes]int
	for i := range away {
		away[i] = -1
	}
	before := previous(g)
	seen := single(to)
	for fresh, length := seen, 0; fresh != 0; length++ {
		for _, n := range fresh.list() {
			away[n] = length
		}
		fresh = before.step(fresh) &^ seen
		seen |= fresh
	}
	return away
}

// walk returns the first of the shortest paths from a node to that from which the distances are taken.
func walk(g Graph, away [MaxNodes]int, at int) []int {
	after := next(g)
	path := []int{at}
	for away[at] > 0 {
		for _, n := range after[at].list() {
			if away[n] == away[at]-1 {
				at = n
				break
			}
		}
		path = append(path, at)
	}
	return path
}

// search finds the strongly connected components by following edges as deep as possible.
type search struct {
	after   *links
	low     [MaxNodes]int // the earliest node on the way that is reached
	visited int
	way     []int
	on      set // the nodes of the way
	found   []set
}

// components returns the strongly connected components, in increasing order of their least nodes.
func components(g Graph) []set {
	s := search{after: next(g)}
	for i := range g.Nodes {
		if s.low[i] == 0 {
			s.visit(i)
		}
	}
	ordered := make([]set, 0, len(s.found))
	for i := range g.Nodes {
		for _, c := range s.found {
			if bits.TrailingZeros64(uint64(c)) == i {
				ordered = append(ordered, c)
			}
		}
	}
	return ordered
}

// visit follows the edges of a node; if it is the earliest one that its successors reach, the way from it on is a component.
func (s *search) visit(node int) {
	s.visited++
	number := s.visited
	s.low[node] = number
	s.way, s.on = append(s.way, node), s.on|single(node)
	for _, n := range s.after[node].list() {
		if s.low[n] == 0 {
			s.visit(n)
		}
		if s.on.has(n) {
			s.low[node] = min(s.low[node], s.low[n])
		}
	}
	if s.low[node] < number {
		return
	}
	var c set
	for !c.has(node) {
		last := s.way[len(s.way)-1]
		s.way = s.way[:len(s.way)-1]
		c |= single(last)
	}
	s.on &^= c
	s.found = append(s.found, c)
}
