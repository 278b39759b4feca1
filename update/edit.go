package update

import (
	"slices"

	"dowel/api"
	"dowel/assembly"
	"dowel/blocking"
	"dowel/copies"
)

// edit performs an edit on a copy, and takes this over if there is no error. The index of the instance that the edit removes is removed; otherwise it is -1.
func (t *Table) edit(removed int, perform func(*Table) api.Errno) api.Errno {
	if t == nil {
		return api.ErrArgument
	}
	c := t.Clone()
	if e := perform(c); e != api.OK {
		return e
	}
	c.changes = changes(t, c, removed)
	*t = *c
	return api.OK
}

// change performs an edit of the assembly; concerns tells which places are to be examined again.
func (t *Table) change(a api.Assembly, concerns func(place) bool) api.Errno {
	if _, _, e := assembly.Sound(a); e != api.OK {
		return e
	}
	t.assembly = a
	return t.examine(concerns)
}

// hasInstance reports whether there is an instance with an index.
func (t *Table) hasInstance(index int) bool { return index >= 0 && index < len(t.assembly.Instances) }

// Replace puts x in the place of an instance.
func (t *Table) Replace(index int, x api.Instance) api.Errno {
	return t.edit(-1, func(c *Table) api.Errno {
		if !c.hasInstance(index) {
			return api.ErrRange
		}
		a := copies.Assembly(c.assembly)
		a.Instances[index] = x
		return c.change(a, func(p place) bool { return p.from == index || p.to == index })
	})
}

// Add adds an instance behind all others.
func (t *Table) Add(x api.Instance) api.Errno {
	return t.edit(-1, func(c *Table) api.Errno {
		a := copies.Assembly(c.assembly)
		index := len(a.Instances)
		a.Instances = append(a.Instances, x)
		return c.change(a, func(p place) bool { return p.from == index || p.to == index })
	})
}

// Remove removes an instance.
func (t *Table) Remove(index int) api.Errno {
	return t.edit(index, func(c *Table) api.Errno {
		if !c.hasInstance(index) {
			return api.ErrRange
		}
		arcs := map[place]api.Arc{}
		for p, arc := range c.arcs {
			if shifted, ok := shift(arc, index); ok {
				arcs[place{p.direction, shifted.From, shifted.To}] = shifted
			}
		}
		c.arcs = arcs
		a := copies.Assembly(c.assembly)
		a.Instances = slices.Delete(a.Instances, index, index+1)
		return c.change(a, func(place) bool { return false })
	})
}

// shift returns an arc as it is when an instance has been removed (-1: none); false if it was one of this instance.
func shift(arc api.Arc, removed int) (api.Arc, bool) {
	if removed < 0 {
		return arc, true
	}
	isGone := arc.From == removed || arc.To == removed
	if arc.From > removed {
		arc.From--
	}
	if arc.To > removed {
		arc.To--
	}
	return arc, !isGone
}

// Part puts p in the place of the part with its name.
func (t *Table) Part(p api.Part) api.Errno {
	return t.edit(-1, func(c *Table) api.Errno {
		at := slices.IndexFunc(c.assembly.Parts, func(q api.Part) bool { return q.Name == p.Name })
		if at < 0 {
			return api.ErrUnknown
		}
		a := copies.Assembly(c.assembly)
		a.Parts[at] = copies.Part(p)
		isOfPart := func(i int) bool { return a.Instances[i].Part == p.Name }
		return c.change(a, func(q place) bool { return isOfPart(q.from) || isOfPart(q.to) })
	})
}

// Turn puts a direction in the place of another one.
func (t *Table) Turn(direction int, d api.Point) api.Errno {
	return t.edit(-1, func(c *Table) api.Errno {
		if e := c.check(direction); e != api.OK {
			return e
		}
		if e := blocking.CheckDirection(d); e != api.OK {
			return e
		}
		c.directions[direction] = d
		return c.examine(func(p place) bool { return p.direction == direction })
	})
}

// changes returns what an edit has changed.
func changes(before, after *Table, removed int) []Change {
	var l []Change
	for i := range before.directions {
		kept := map[api.Arc]bool{}
		for _, arc := range before.arcsOf(i) {
			shifted, ok := shift(arc, removed)
			if ok && after.arcs[place{i, shifted.From, shifted.To}] == shifted {
				kept[shifted] = true
				continue
			}
			l = append(l, Change{i, false, arc})
		}
		for _, arc := range after.arcsOf(i) {
			if !kept[arc] {
				l = append(l, Change{i, true, arc})
			}
		}
	}
	return l
}
