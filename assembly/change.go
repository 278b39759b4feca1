package assembly

import (
	"slices"

	"dowel/api"
	"dowel/copies"
	"dowel/motion"
)

// Select returns the assembly with some of the instances.
func Select(a api.Assembly, set []int) (api.Assembly, api.Errno) {
	if e := Check(a); e != api.OK {
		return api.Assembly{}, e
	}
	b := copies.Assembly(a)
	b.Instances = nil
	for i, k := range set {
		if k < 0 || k >= len(a.Instances) {
			return api.Assembly{}, api.ErrRange
		}
		if slices.Contains(set[:i], k) {
			return api.Assembly{}, api.ErrDuplicate
		}
		b.Instances = append(b.Instances, a.Instances[k])
	}
	return b, api.OK
}

// Move returns the assembly in which all instances have been moved.
func Move(a api.Assembly, p api.Placement) (api.Assembly, api.Errno) {
	if e := Check(a); e != api.OK {
		return api.Assembly{}, e
	}
	if e := motion.Check(p); e != api.OK {
		return api.Assembly{}, e
	}
	b := copies.Assembly(a)
	for i, x := range b.Instances {
		place, e := motion.Join(p, x.Place)
		if e != api.OK {
			return api.Assembly{}, e
		}
		b.Instances[i].Place = place
	}
	return b, api.OK
}

// Replace returns the assembly in which an instance has another place.
func Replace(a api.Assembly, index int, p api.Placement) (api.Assembly, api.Errno) {
	if e := Check(a); e != api.OK {
		return api.Assembly{}, e
	}
	if index < 0 || index >= len(a.Instances) {
		return api.Assembly{}, api.ErrRange
	}
	if e := motion.Check(p); e != api.OK {
		return api.Assembly{}, e
	}
	b := copies.Assembly(a)
	b.Instances[index].Place = p
	return b, api.OK
}

// Equal reports whether all parts and instances of two assemblies are equal.
func Equal(a, b api.Assembly) bool {
	return slices.Equal(a.Instances, b.Instances) && slices.EqualFunc(a.Parts, b.Parts, func(p, q api.Part) bool {
		return p.Name == q.Name && p.Density == q.Density && slices.EqualFunc(p.Cells, q.Cells, func(c, d api.Cell) bool {
			return slices.Equal(c.Vertices, d.Vertices)
		})
	})
}
