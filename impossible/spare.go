package impossible

import (
	"slices"

	"dowel/api"
)

// holds reports whether, by some arcs, every instance of a core but Kept reaches too many others, or Kept.
func holds(c api.Core, arcs []api.Arc) bool {
	bound := len(c.Set) - 1
	if c.Most > 0 {
		bound = min(bound, c.Most)
	}
	to := map[int][]int{}
	for _, arc := range arcs {
		to[arc.From] = append(to[arc.From], arc.To)
	}
	for _, i := range c.Set {
		if i == c.Kept && c.Kept != -1 {
			continue
		}
		reached := reach(to, i)
		reachesKept := c.Kept != -1 && reached[c.Kept]
		if len(reached) <= bound && !reachesKept {
			return false
		}
	}
	return true
}

// reach returns the instances that one reaches, with itself.
func reach(to map[int][]int, from int) map[int]bool {
	reached := map[int]bool{from: true}
	for fresh := []int{from}; len(fresh) > 0; {
		i := fresh[len(fresh)-1]
		fresh = fresh[:len(fresh)-1]
		for _, k := range to[i] {
			if !reached[k] {
				reached[k] = true
				fresh = append(fresh, k)
			}
		}
	}
	return reached
}

// checkSpare returns the errors of Spare but that of the blocks.
func checkSpare(c api.Core) api.Errno {
	if len(c.Set) == 0 {
		return api.ErrEmpty
	}
	for i := 1; i < len(c.Set); i++ {
		if c.Set[i-1] >= c.Set[i] {
			return api.ErrOrder
		}
	}
	if c.Most < 0 || c.Kept != -1 && !slices.Contains(c.Set, c.Kept) {
		return api.ErrRange
	}
	for _, b := range c.Blocks {
		for _, arc := range b.Arcs {
			if !slices.Contains(c.Set, arc.From) || !slices.Contains(c.Set, arc.To) {
				return api.ErrNotFound
			}
		}
	}
	return api.OK
}

// Spare returns the core without the arcs that it does not need.
func Spare(c api.Core) (api.Core, api.Errno) {
	if e := checkSpare(c); e != api.OK {
		return api.Core{}, e
	}
	for _, b := range c.Blocks {
		if !holds(c, b.Arcs) {
			return api.Core{}, api.ErrCertificate
		}
	}
	spared := clone(c)
	for i, b := range spared.Blocks {
		spared.Blocks[i].Arcs = spare(c, b.Arcs)
	}
	return spared, api.OK
}

// spare goes through arcs in order, and leaves out each one that is not needed.
func spare(c api.Core, arcs []api.Arc) []api.Arc {
	for i := 0; i < len(arcs); {
		less := slices.Delete(slices.Clone(arcs), i, i+1)
		if holds(c, less) {
			arcs = less
		} else {
			i++
		}
	}
	return arcs
}

// clone returns an independent core.
func clone(c api.Core) api.Core {
	d := c
	d.Kind.Directions, d.Set, d.Planes = slices.Clone(c.Kind.Directions), slices.Clone(c.Set), slices.Clone(c.Planes)
	d.Tree, d.Blocks = nil, nil
	for _, b := range c.Tree {
		d.Tree = append(d.Tree, api.Branch{Signs: slices.Clone(b.Signs), Direction: b.Direction, Duals: slices.Clone(b.Duals)})
	}
	for _, b := range c.Blocks {
		d.Blocks = append(d.Blocks, api.Block{Direction: b.Direction, Arcs: slices.Clone(b.Arcs)})
	}
	return d
}
