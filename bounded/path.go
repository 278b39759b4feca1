package bounded

import (
	"slices"

	"dowel/api"
	"dowel/axes"
	"dowel/passage"
	"dowel/rational"
	"dowel/solid"
	"dowel/vector"
)

// surroundings are all pairs of a cell of a set and a cell of the rest.
type surroundings []axes.Pair

// surround returns the surroundings of a set in its place.
func surround(solids []solid.Solid, sets [2][]int) surroundings {
	bodies := func(l []int) []axes.Body {
		var all []axes.Body
		for _, i := range l {
			all = append(all, passage.Bodies(solids[i])...)
		}
		return all
	}
	rest := bodies(sets[1])
	var s surroundings
	for _, x := range bodies(sets[0]) {
		for _, y := range rest {
			s = append(s, axes.PairOf(x, y))
		}
	}
	return s
}

// shifted returns the surroundings of the set that has been moved.
func (s surroundings) shifted(v vector.Vec) surroundings {
	moved := make(surroundings, len(s))
	for i, p := range s {
		moved[i] = p.Shifted(v)
	}
	return moved
}

func (s surroundings) penetrates() bool {
	return slices.ContainsFunc(s, func(p axes.Pair) bool { return p.Status() == api.Meeting })
}

// free returns the free distance along a direction, if it is bounded.
func (s surroundings) free(d vector.Vec) (distance rational.Rat, isBounded bool) {
	for _, p := range s {
		low, high, meets := p.Open(d)
		if meets && high.Sign() > 0 && (!isBounded || rational.Compare(low, distance) < 0) {
			distance, isBounded = low, true
		}
	}
	return distance, isBounded
}

// look returns the stops along a direction, in increasing order, and whether the set leaves.
func (s surroundings) look(d vector.Vec) (stops []rational.Rat, leaves bool) {
	free, isBounded := s.free(d)
	found := map[api.Number]bool{}
	add := func(t rational.Rat) {
		isBehind := isBounded && rational.Compare(t, free) > 0
		if n := t.Number(); t.Sign() > 0 && !isBehind && !found[n] {
			found[n] = true
			stops = append(stops, t)
		}
	}
	if isBounded {
		add(free)
	}
	for _, p := range s {
		if low, high, touches := p.Closed(d); touches {
			add(low)
			add(high)
		}
	}
	slices.SortFunc(stops, rational.Compare)
	return stops, !isBounded
}

// state is an offset of a set, and the steps that have led to it.
type state struct {
	offset vector.Vec
	steps  []api.Step
}

// find returns the steps of the first path. All states with one number of translations are looked at before those with one more; of several paths to one offset only the first one is followed.
func find(s surroundings, set []int, directions []api.Point, most int) ([]api.Step, api.Errno) {
	seen := map[api.Point]bool{}
	var look func(left int, states ...state) ([]api.Step, api.Errno)
	look = func(left int, states ...state) ([]api.Step, api.Errno) {
		if left == 0 || len(states) == 0 {
			return nil, api.ErrBlocked
		}
		var path []api.Step
		var next []state
		for _, x := range states {
			here := s.shifted(x.offset)
			for _, p := range directions {
				d, _ := vector.Read(p)
				stops, leaves := here.look(d)
				if len(stops) > MaxStops {
					return nil, api.ErrLimit
				}
				if leaves && path == nil {
					path = x.after(set, p, "")
				}
				for _, t := range stops {
					offset := vector.Add(x.offset, vector.Scale(d, t))
					if at := offset.Point(); left > 1 && !seen[at] {
						seen[at] = true
						next = append(next, state{offset, x.after(set, p, t.Number())})
					}
				}
			}
		}
		if path != nil {
			return path, api.OK
		}
		return look(left-1, next...)
	}
	seen[vector.Vec{}.Point()] = true
	return look(most, state{})
}

// after returns the steps of a state, and a further one.
func (x state) after(set []int, direction api.Point, distance api.Number) []api.Step {
	var steps []api.Step
	for _, s := range x.steps {
		s.Moved = slices.Clone(set)
		steps = append(steps, s)
	}
	return append(steps, api.Step{Moved: slices.Clone(set), Direction: direction, Distance: distance})
}
