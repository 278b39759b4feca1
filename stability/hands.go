package stability

import (
	"iter"
	"slices"

	"dowel/api"
	"dowel/force"
)

// held is the instances that are held, as bits.
type held [api.MaxInstances]bool

// examined is a valid situation, with the answers that have been found for it with further held instances.
type examined struct {
	Situation
	answers map[held]bool
}

func examine(s Situation) *examined { return &examined{s, map[held]bool{}} }

// holding returns the situation in which further instances are held.
func (x *examined) holding(more []int) Situation {
	s := x.Situation
	s.Held = slices.Sorted(slices.Values(slices.Concat(x.Held, more)))
	return s
}

// stands reports whether the situation stands if further instances are held.
func (x *examined) stands(more []int) (bool, api.Errno) {
	s := x.holding(more)
	var key held
	for _, i := range s.Held {
		key[i] = true
	}
	if is, ok := x.answers[key]; ok {
		return is, api.OK
	}
	is := true
	if len(s.free()) > 0 {
		stand, e := force.Balance(s.system())
		if e != api.OK {
			return false, e
		}
		is = stand.Stands
	}
	x.answers[key] = is
	return is, api.OK
}

// loose returns the free instances that do not stand even if all others are held.
func (x *examined) loose() ([]int, api.Errno) {
	var loose []int
	for _, i := range x.free() {
		others := slices.DeleteFunc(x.free(), func(k int) bool { return k == i })
		is, e := x.stands(others)
		if e != api.OK {
			return nil, e
		}
		if !is {
			loose = append(loose, i)
		}
	}
	return loose, api.OK
}

// lists yields the lists of at most so many instances: those with fewer ones first, of the same number in lexicographic order.
func lists(l []int, most int) iter.Seq[[]int] {
	return func(yield func([]int) bool) {
		for size := 0; size <= min(most, len(l)); size++ {
			if !choose(l, nil, size, yield) {
				return
			}
		}
	}
}

// choose yields all lists of some chosen instances and so many further ones; false if it shall end.
func choose(l, chosen []int, size int, yield func([]int) bool) bool {
	if size == 0 {
		return yield(slices.Clone(chosen))
	}
	for i := range len(l) - size + 1 {
		if !choose(l[i+1:], append(slices.Clone(chosen), l[i]), size-1, yield) {
			return false
		}
	}
	return true
}

// hands returns the first list of at most so many free instances with which the situation stands if they are held. All loose instances belong to it.
func (x *examined) hands(most int) (hands []int, found bool, e api.Errno) {
	loose, e := x.loose()
	if e != api.OK {
		return nil, false, e
	}
	isMissing := func(l []int) bool {
		return slices.ContainsFunc(loose, func(i int) bool { return !slices.Contains(l, i) })
	}
	for l := range lists(x.free(), most) {
		if isMissing(l) {
			continue
		}
		is, e := x.stands(l)
		if e != api.OK {
			return nil, false, e
		}
		if is {
			return l, true, api.OK
		}
	}
	return nil, false, api.OK
}
