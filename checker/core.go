package checker

import (
	"slices"

	"dowel/api"
)

// provesCore reports whether a core is proved.
func (s *scene) provesCore(c api.Core) bool {
	if !s.isQuestion(c) || slices.ContainsFunc(c.Blocks, func(b api.Block) bool { return !holdsAll(c, b.Arcs) }) {
		return false
	}
	if len(c.Kind.Directions) == 0 {
		return s.provesAll(c)
	}
	if len(c.Planes)+len(c.Tree) > 0 || len(c.Blocks) != len(c.Kind.Directions) {
		return false
	}
	for i, b := range c.Blocks {
		if b.Direction != c.Kind.Directions[i] || !s.areRight(c, b) {
			return false
		}
	}
	return true
}

// isQuestion reports whether all fields of a core but its proof are right.
func (s *scene) isQuestion(c api.Core) bool {
	for i, x := range c.Set {
		if x < 0 || x >= len(s.assembly.Instances) || i > 0 && c.Set[i-1] >= x {
			return false
		}
	}
	isKind := c.Kind.Blocking == api.Far || c.Kind.Blocking == api.Local
	isKept := c.Kept == -1 || slices.Contains(c.Set, c.Kept)
	return len(c.Set) > 1 && isKind && c.Most >= 0 && c.Most <= api.MaxInstances && isKept
}

// areRight reports whether all arcs of a block are between instances of the set, and right for its direction.
func (s *scene) areRight(c api.Core, b api.Block) bool {
	d, ok := readVec(b.Direction)
	if !ok || d.isZero() {
		return false
	}
	return !slices.ContainsFunc(b.Arcs, func(arc api.Arc) bool {
		return !slices.Contains(c.Set, arc.From) || !slices.Contains(c.Set, arc.To) || !s.isRight(arc, d, c.Kind.Blocking)
	})
}

// provesAll reports whether a core is proved for all directions.
func (s *scene) provesAll(c api.Core) bool {
	normals, ok := readArrangement(c.Planes)
	if !ok || !isTree(normals, c.Tree) {
		return false
	}
	borders := generators(normals)
	left := c.Blocks
	for _, x := range c.Tree {
		if len(x.Signs) != len(normals) || isEmpty(x.Direction) {
			continue
		}
		if len(left) == 0 || left[0].Direction != x.Direction || !s.areRight(c, left[0]) {
			return false
		}
		for _, g := range borders {
			if isOnBorder(normals, x.Signs, g) && !s.areBorderRight(c, left[0], g) {
				return false
			}
		}
		left = left[1:]
	}
	return len(left) == 0
}

// isOnBorder reports whether a vector has only the signs of a cell, or 0.
func isOnBorder(normals []vec, signs []int, d vec) bool {
	for i, n := range normals {
		if sign := n.dot(d).Sign(); sign != 0 && sign != signs[i] {
			return false
		}
	}
	return true
}

// areBorderRight reports whether the arcs of a block can be right near to a border of a cell.
func (s *scene) areBorderRight(c api.Core, b api.Block, d vec) bool {
	return !slices.ContainsFunc(b.Arcs, func(arc api.Arc) bool { return !s.isBorderRight(arc, d, c.Kind.Blocking) })
}

// holdsAll reports whether by some arcs every instance of a core but the kept one reaches too many others, or the kept one.
func holdsAll(c api.Core, arcs []api.Arc) bool {
	most := len(c.Set) - 1
	if c.Most > 0 {
		most = min(most, c.Most)
	}
	for _, i := range c.Set {
		reached := reach(arcs, i)
		isHeld := len(reached) > most || c.Kept != -1 && slices.Contains(reached, c.Kept)
		if !isHeld {
			return false
		}
	}
	return true
}

// reach returns all instances that one reaches by some arcs, with itself.
func reach(arcs []api.Arc, from int) []int {
	reached := []int{from}
	for i := 0; i < len(reached); i++ {
		for _, arc := range arcs {
			if arc.From == reached[i] && !slices.Contains(reached, arc.To) {
				reached = append(reached, arc.To)
			}
		}
	}
	return reached
}
