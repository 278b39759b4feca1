package planner

import (
	"iter"
	"math/bits"

	"dowel/api"
	"dowel/blocking"
	"dowel/outlook"
)

// set is a set of instances, as bits.
type set uint

func of(l []int) set {
	var s set
	for _, i := range l {
		s |= 1 << i
	}
	return s
}

// full returns the set of so many instances.
func full(n int) set { return 1<<n - 1 }

func (s set) size() int { return bits.OnesCount(uint(s)) }

func (s set) has(i int) bool { return s>>i&1 == 1 }

// list returns the instances of a set in increasing order.
func (s set) list() []int {
	l := make([]int, 0, s.size())
	for ; s != 0; s &= s - 1 {
		l = append(l, bits.TrailingZeros(uint(s)))
	}
	return l
}

// subsets yields the subsets of a set with so many elements, in lexicographic order.
func (s set) subsets(size int) iter.Seq[set] {
	return func(yield func(set) bool) { choose(s, 0, size, yield) }
}

// choose yields all sets of some chosen elements and so many further ones; false if it shall end.
func choose(from, chosen set, size int, yield func(set) bool) bool {
	if size == 0 {
		return yield(chosen)
	}
	for from.size() >= size {
		least := from & -from
		from &^= least
		if !choose(from, chosen|least, size-1, yield) {
			return false
		}
	}
	return true
}

// blockers has for each instance those by which it is blocked, along one direction.
type blockers [api.MaxInstances]set

// way is a direction in which a set is examined.
type way struct {
	direction api.Point
	blockers  *blockers
}

// move is a set that can be moved along a direction.
type move struct {
	moved     set
	direction api.Point
}

// search keeps what has been found about the sets of an assembly, and the first error.
type search struct {
	scene   *blocking.Scene
	kind    api.Kind
	outlook *outlook.Outlook
	graphs  map[api.Point]*blockers
	ways    map[set][]way
	e       api.Errno
}

func newSearch(scene *blocking.Scene, kind api.Kind) *search {
	return &search{scene, kind, outlook.New(scene, kind), map[api.Point]*blockers{}, map[set][]way{}, api.OK}
}

// graph returns the blockers of all instances along a direction.
func (s *search) graph(d api.Point) *blockers {
	if g, ok := s.graphs[d]; ok {
		return g
	}
	arcs, e := s.scene.Arcs(full(s.scene.Len()).list(), d, s.kind.Blocking)
	if e != api.OK {
		s.e = e
	}
	g := new(blockers)
	for _, arc := range arcs {
		g[arc.From] |= 1 << arc.To
	}
	s.graphs[d] = g
	return g
}

// waysOf returns the ways of a set: the directions of the kind, or, for all directions, those that stand for them.
func (s *search) waysOf(r set) []way {
	if l, ok := s.ways[r]; ok {
		return l
	}
	directions, e := s.outlook.Directions(r.list())
	if e != api.OK {
		s.e = e
		return nil
	}
	var l []way
	for _, d := range directions {
		l = append(l, way{d, s.graph(d)})
	}
	s.ways[r] = l
	return l
}

// moves yields the moves of a set, in order.
func (s *search) moves(r set, most int) iter.Seq[move] {
	return func(yield func(move) bool) {
		if r.size() < 2 {
			return
		}
		ways := s.waysOf(r)
		if s.e != api.OK {
			return
		}
		largest := r.size() - 1
		if most > 0 {
			largest = min(largest, most)
		}
		for size := 1; size <= largest; size++ {
			for moved := range r.subsets(size) {
				for _, w := range ways {
					if w.blockers.permit(moved, r&^moved) && !yield(move{moved, w.direction}) {
						return
					}
				}
			}
		}
	}
}

// permit reports whether no instance of one set is blocked by one of another set.
func (b *blockers) permit(moved, rest set) bool {
	for ; moved != 0; moved &= moved - 1 {
		if b[bits.TrailingZeros(uint(moved))]&rest != 0 {
			return false
		}
	}
	return true
}

// first returns the first move of a set that a function accepts.
func (s *search) first(r set, most int, accepts func(move) bool) (move, bool) {
	for m := range s.moves(r, most) {
		if accepts(m) {
			return m, true
		}
	}
	return move{}, false
}
