package revision

import (
	"slices"

	"dowel/api"
	"dowel/dimension"
)

// numbers returns the versions of a revision by their keys.
func numbers(r Revision) map[Key]int {
	found := map[Key]int{}
	for _, v := range r.Versions {
		found[v.Key] = v.Number
	}
	return found
}

// Changed returns the keys of the items and lists that differ.
func Changed(a, b Revision) []Key {
	before, after := numbers(a), numbers(b)
	var l []Key
	for _, v := range a.Versions {
		if n, ok := after[v.Key]; !ok || n != v.Number {
			l = append(l, v.Key)
		}
	}
	for _, v := range b.Versions {
		if _, ok := before[v.Key]; !ok {
			l = append(l, v.Key)
		}
	}
	slices.SortFunc(l, CompareKeys)
	return l
}

// Reads returns the keys of all that an item depends on.
func Reads(p api.Product, k Key) ([]Key, api.Errno) {
	if e := Check(p); e != api.OK {
		return nil, e
	}
	if k.Name == "" && k.Kind >= Part && k.Kind <= Requirement {
		return []Key{k}, api.OK
	}
	x, _, ok := Find(p, k)
	if !ok {
		return nil, api.ErrNotFound
	}
	l := []Key{k}
	switch k.Kind {
	case Instance:
		l = append(l, Key{Part, x.Instance.Part})
	case Constraint:
		l = append(l, dimensions(p, usesOf(x.Constraint.Form))...)
	case Requirement:
		l = append(l, dimensions(p, dimension.Uses(x.Requirement.Gap))...)
		l = append(l, Key{Kind: Constraint})
		for _, c := range p.Constraints {
			l = append(append(l, Key{Constraint, c.Name}), dimensions(p, usesOf(c.Form))...)
		}
	}
	slices.SortFunc(l, CompareKeys)
	return slices.Compact(l), api.OK
}

// dimensions returns the keys of dimensions with some indices.
func dimensions(p api.Product, l []int) []Key {
	var keys []Key
	for _, d := range l {
		keys = append(keys, Key{Dimension, p.Dimensions[d].Name})
	}
	return keys
}

// Stamp returns the versions of keys.
func Stamp(r Revision, l []Key) ([]Version, api.Errno) {
	present := numbers(r)
	var stamped []Version
	for _, k := range l {
		n, ok := present[k]
		if !ok {
			return nil, api.ErrNotFound
		}
		stamped = append(stamped, Version{k, n})
	}
	return stamped, api.OK
}

// Fresh reports whether all of some versions are those of a revision.
func Fresh(r Revision, l []Version) bool {
	present := numbers(r)
	for _, v := range l {
		if n, ok := present[v.Key]; !ok || n != v.Number {
			return false
		}
	}
	return true
}
