package task

import (
	"slices"

	"dowel/api"
	"dowel/graph"
)

// Order returns the first order of the tasks in which each one comes behind those before it.
func Order(s Shop) ([]int, api.Errno) {
	if e := Check(s); e != api.OK {
		return nil, e
	}
	return graph.Order(graphOf(s))
}

// Before returns all tasks that come before each one.
func Before(s Shop) ([][]int, api.Errno) {
	if e := Check(s); e != api.OK {
		return nil, e
	}
	return before(s), api.OK
}

// before is Before for a valid shop.
func before(s Shop) [][]int {
	reversed, _ := graph.Reverse(graphOf(s))
	l, _ := graph.Closure(reversed)
	for i := range l {
		l[i] = slices.DeleteFunc(l[i], func(k int) bool { return k == i })
	}
	return l
}

// Reduce returns the shop in which no task names what comes before another one that it names.
func Reduce(s Shop) (Shop, api.Errno) {
	if e := Check(s); e != api.OK {
		return Shop{}, e
	}
	all := before(s)
	var r Shop
	for _, t := range s.Tasks {
		isImplied := func(k int) bool {
			return slices.ContainsFunc(t.After, func(other int) bool { return slices.Contains(all[other], k) })
		}
		u := t
		u.After = slices.DeleteFunc(slices.Clone(t.After), isImplied)
		r.Tasks = append(r.Tasks, u)
	}
	for _, x := range s.Stations {
		r.Stations = append(r.Stations, Station{x.Name, slices.Clone(x.Tools)})
	}
	return r, api.OK
}

// Tails returns how long it takes from the beginning of each task on.
func Tails(s Shop) ([]int, api.Errno) {
	if e := Check(s); e != api.OK {
		return nil, e
	}
	return tails(s), api.OK
}

// tails is Tails for a valid shop.
func tails(s Shop) []int {
	g := graphOf(s)
	order, _ := graph.Order(g)
	l := make([]int, len(s.Tasks))
	slices.Reverse(order)
	for _, i := range order {
		for _, x := range g.Edges {
			if x.From == i {
				l[i] = max(l[i], l[x.To])
			}
		}
		l[i] += s.Tasks[i].Duration
	}
	return l
}

// Critical returns the longest chain.
func Critical(s Shop) (length int, path []int, e api.Errno) {
	if e := Check(s); e != api.OK {
		return 0, nil, e
	}
	l := tails(s)
	for _, tail := range l {
		length = max(length, tail)
	}
	var extend func(length int)
	extend = func(length int) {
		for i, t := range s.Tasks {
			isNext := len(path) == 0 || slices.Contains(t.After, path[len(path)-1])
			if isNext && l[i] == length {
				path = append(path, i)
				extend(length - t.Duration)
				return
			}
		}
	}
	extend(length)
	return length, path, api.OK
}
