package schedule

import (
	"slices"

	"dowel/api"
	"dowel/task"
)

// Best returns a schedule of the least length.
func Best(s task.Shop) ([]api.Job, api.Errno) {
	if e := task.Check(s); e != api.OK {
		return nil, e
	}
	if len(s.Tasks) > MaxBest {
		return nil, api.ErrLimit
	}
	x := newSearch(s)
	x.extend(0, 0)
	return x.best, api.OK
}

// search goes through the schedules in which each job begins as early as possible. The jobs are given in the order of their beginnings, those that begin together in the order of their tasks: so every schedule is met once.
type search struct {
	*table
	abilities []uint // the tasks that each station can do, as bits
	tails     []int
	best      []api.Job
	length    int // of the best one
	lower     int
}

// newSearch begins with the best list schedule.
func newSearch(s task.Shop) *search {
	x := &search{table: newTable(s), abilities: make([]uint, len(s.Stations))}
	for i, stations := range x.able {
		for _, station := range stations {
			x.abilities[station] |= 1 << i
		}
	}
	x.tails, _ = task.Tails(s)
	x.lower, _, _ = Lower(s)
	for rule := ByTail; rule <= ByIndex; rule++ {
		order, _ := Priority(s, rule)
		l, _ := List(s, order)
		if n := makespan(s, l); rule == ByTail || n < x.length {
			x.best, x.length = l, n
		}
	}
	return x
}

// extend gives a further task to a station in each way that can lead to a better schedule, behind the last task and not before it begins.
func (x *search) extend(last, from int) {
	if x.set == 1<<len(x.jobs)-1 {
		if n := makespan(x.shop, x.jobs); n < x.length {
			x.best, x.length = slices.Clone(x.jobs), n
		}
		return
	}
	for i := range x.jobs {
		if x.isGiven(i) || !x.isReady(i) {
			continue
		}
		for _, station := range x.able[i] {
			if x.bound(from) >= x.length {
				return
			}
			start := x.start(i, station)
			if start < from || start == from && i < last || x.isRepeated(station) {
				continue
			}
			free := x.free[station]
			x.give(i, station)
			x.extend(i, start)
			x.take(i, station, free)
		}
	}
}

// isRepeated reports whether an earlier station is free at the same time, and can do the same of the tasks that are left.
func (x *search) isRepeated(station int) bool {
	for k := range station {
		if x.free[k] == x.free[station] && (x.abilities[k]^x.abilities[station])&^x.set == 0 {
			return true
		}
	}
	return false
}

// bound returns how long each schedule is at least in which the tasks that are left begin from a time on.
func (x *search) bound(from int) int {
	bound, work := x.lower, 0
	var stations uint
	for i, t := range x.shop.Tasks {
		if x.isGiven(i) {
			continue
		}
		work += t.Duration
		begin := x.start(i, slices.MinFunc(x.able[i], func(a, b int) int { return x.free[a] - x.free[b] }))
		bound = max(bound, max(from, begin)+x.tails[i])
		for _, station := range x.able[i] {
			stations |= 1 << station
		}
	}
	// All stations that can do something that is left share the work.
	count := 0
	for _, station := range list(stations) {
		work += max(from, x.free[station])
		count++
	}
	return max(bound, (work+count-1)/count)
}
