package schedule

import (
	"slices"

	"dowel/api"
	"dowel/task"
)

// table is a schedule in which some tasks have jobs, one put behind the other at each station.
type table struct {
	shop task.Shop
	able [][]int // the stations for each task
	jobs []api.Job
	free []int // from when each station is free
	set  uint  // the tasks that have jobs, as bits
}

func newTable(s task.Shop) *table {
	return &table{shop: s, able: ableStations(s), jobs: make([]api.Job, len(s.Tasks)), free: make([]int, len(s.Stations))}
}

func (t *table) isGiven(i int) bool { return t.set>>i&1 == 1 }

// isReady reports whether all tasks that come before a task have jobs.
func (t *table) isReady(i int) bool {
	return !slices.ContainsFunc(t.shop.Tasks[i].After, func(before int) bool { return !t.isGiven(before) })
}

// start returns when a station can begin a task, as far as the jobs say that are there.
func (t *table) start(i, station int) int {
	from := t.free[station]
	for _, before := range t.shop.Tasks[i].After {
		if t.isGiven(before) {
			from = max(from, end(t.shop, t.jobs[before]))
		}
	}
	return from
}

// earliest returns the first of the stations that can begin a task earliest.
func (t *table) earliest(i int) int {
	return slices.MinFunc(t.able[i], func(x, y int) int { return t.start(i, x) - t.start(i, y) })
}

// give gives a task that is ready to a station, behind its last job.
func (t *table) give(i, station int) {
	t.jobs[i] = api.Job{Task: i, Station: station, Start: t.start(i, station)}
	t.free[station] = end(t.shop, t.jobs[i])
	t.set |= 1 << i
}

// take takes back the last job of a station, before which it was free from a time on.
func (t *table) take(i, station, free int) {
	t.free[station] = free
	t.set &^= 1 << i
}
