package liaison

import (
	"slices"

	"dowel/api"
	"dowel/graph"
	"dowel/naming"
)

// Group is a subassembly of a hierarchy.
type Group struct {
	Name    string
	Members []int
}

// CheckGroups returns OK for a hierarchy of n instances.
func CheckGroups(l []Group, n int) api.Errno {
	if n < 0 || n > api.MaxInstances {
		return api.ErrRange
	}
	if len(l) > MaxGroups {
		return api.ErrLimit
	}
	for i, g := range l {
		if e := checkGroup(l[:i], g, n); e != api.OK {
			return e
		}
	}
	return api.OK
}

// checkGroup returns the error of a group behind earlier ones.
func checkGroup(earlier []Group, g Group, n int) api.Errno {
	if !naming.Is(g.Name) {
		return api.ErrName
	}
	if slices.ContainsFunc(earlier, func(o Group) bool { return o.Name == g.Name }) {
		return api.ErrDuplicate
	}
	if len(g.Members) < 2 {
		return api.ErrEmpty
	}
	if e := checkMembers(g.Members, n); e != api.OK {
		return e
	}
	s := of(g.Members)
	if slices.ContainsFunc(earlier, func(o Group) bool { return of(o.Members) == s }) {
		return api.ErrDuplicate
	}
	crosses := func(o Group) bool {
		common := of(o.Members) & s
		return common != 0 && common != s && common != of(o.Members)
	}
	if slices.ContainsFunc(earlier, crosses) {
		return api.ErrConflict
	}
	return api.OK
}

// isInside reports whether a group is part of another one, and not the same.
func isInside(g, around Group) bool {
	s, t := of(g.Members), of(around.Members)
	return s != t && s&^t == 0
}

// Parents returns for each group the index of the least one around it, or -1.
func Parents(l []Group, n int) ([]int, api.Errno) {
	if e := CheckGroups(l, n); e != api.OK {
		return nil, e
	}
	parents := make([]int, len(l))
	for i, g := range l {
		parents[i] = -1
		for k, o := range l {
			if isInside(g, o) && (parents[i] < 0 || len(o.Members) < len(l[parents[i]].Members)) {
				parents[i] = k
			}
		}
	}
	return parents, api.OK
}

// Order returns the indices of the groups such that each comes behind all that it contains.
func Order(l []Group, n int) ([]int, api.Errno) {
	if e := CheckGroups(l, n); e != api.OK {
		return nil, e
	}
	order := make([]int, len(l))
	for i := range order {
		order[i] = i
	}
	slices.SortStableFunc(order, func(i, k int) int { return len(l[i].Members) - len(l[k].Members) })
	return order, api.OK
}

// Loose returns the indices of the groups whose members are not connected.
func Loose(g graph.Graph, l []Group) ([]int, api.Errno) {
	if e := Check(g); e != api.OK {
		return nil, e
	}
	if e := CheckGroups(l, g.Nodes); e != api.OK {
		return nil, e
	}
	var loose []int
	for i, x := range l {
		if !linksOf(g).isConnected(of(x.Members)) {
			loose = append(loose, i)
		}
	}
	return loose, api.OK
}

// Own returns the members of a group that belong to no group inside it.
func Own(l []Group, n, i int) ([]int, api.Errno) {
	if e := CheckGroups(l, n); e != api.OK {
		return nil, e
	}
	if i < 0 || i >= len(l) {
		return nil, api.ErrNotFound
	}
	own := of(l[i].Members)
	for _, g := range l {
		if isInside(g, l[i]) {
			own &^= of(g.Members)
		}
	}
	return own.list(), api.OK
}
