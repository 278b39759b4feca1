package schedule

import (
	"slices"

	"dowel/api"
	"dowel/task"
)

// Proof proves that no schedule is shorter than a number: by a chain of tasks, or by tasks that only some stations can do.
type Proof struct {
	Chain           []int
	Tasks, Stations []int
}

// heads returns how long the tasks that come before each one take at least.
func heads(s task.Shop) []int {
	order, _ := task.Order(s)
	l := make([]int, len(s.Tasks))
	for _, i := range order {
		for _, before := range s.Tasks[i].After {
			l[i] = max(l[i], l[before]+s.Tasks[before].Duration)
		}
	}
	return l
}

// rests returns how long the tasks behind each one take at least.
func rests(s task.Shop) []int {
	l, _ := task.Tails(s)
	for i, t := range s.Tasks {
		l[i] -= t.Duration
	}
	return l
}

// Lower returns the greatest bound that has a proof.
func Lower(s task.Shop) (int, Proof, api.Errno) {
	bound, chain, e := task.Critical(s)
	if e != api.OK {
		return 0, Proof{}, e
	}
	p := Proof{Chain: chain}
	able, head, rest := ableStations(s), heads(s), rests(s)
	for set := uint(1); set < 1<<len(s.Stations); set++ {
		stations := list(set)
		tasks := confined(able, stations)
		// Of the tasks that begin and end with enough time before and behind them, all together are best.
		for _, i := range tasks {
			for _, k := range tasks {
				chosen := slices.DeleteFunc(slices.Clone(tasks), func(x int) bool { return head[x] < head[i] || rest[x] < rest[k] })
				if n := value(s, chosen, stations, head, rest); n > bound {
					bound, p = n, Proof{Tasks: chosen, Stations: stations}
				}
			}
		}
	}
	return bound, p, api.OK
}

// list returns the elements of a set of bits.
func list(set uint) []int {
	var l []int
	for i := 0; set>>i > 0; i++ {
		if set>>i&1 == 1 {
			l = append(l, i)
		}
	}
	return l
}

// ableStations returns the stations that can do each task.
func ableStations(s task.Shop) [][]int {
	l := make([][]int, len(s.Tasks))
	for i := range l {
		l[i], _ = task.Able(s, i)
	}
	return l
}

// confined returns the tasks that no other station can do.
func confined(able [][]int, stations []int) []int {
	var l []int
	for i, x := range able {
		if isWithin(x, stations) {
			l = append(l, i)
		}
	}
	return l
}

// isWithin reports whether all stations of one list are in another one.
func isWithin(l, stations []int) bool {
	return !slices.ContainsFunc(l, func(x int) bool { return !slices.Contains(stations, x) })
}

// value returns the bound that some tasks prove which only some stations can do; 0 without tasks.
func value(s task.Shop, tasks, stations, head, rest []int) int {
	if len(tasks) == 0 {
		return 0
	}
	sum, before, behind := 0, head[tasks[0]], rest[tasks[0]]
	for _, i := range tasks {
		sum += s.Tasks[i].Duration
		before, behind = min(before, head[i]), min(behind, rest[i])
	}
	return before + (sum+len(stations)-1)/len(stations) + behind
}

// Verify returns OK for a proof of a bound.
func Verify(s task.Shop, bound int, p Proof) api.Errno {
	if e := task.Check(s); e != api.OK {
		return e
	}
	if len(p.Chain) > 0 && len(p.Tasks)+len(p.Stations) > 0 {
		return api.ErrForm
	}
	areWithin := func(l []int, n int) bool {
		return !slices.ContainsFunc(l, func(i int) bool { return i < 0 || i >= n })
	}
	if !areWithin(p.Chain, len(s.Tasks)) || !areWithin(p.Tasks, len(s.Tasks)) || !areWithin(p.Stations, len(s.Stations)) {
		return api.ErrRange
	}
	if !isIncreasing(p.Tasks) || !isIncreasing(p.Stations) {
		return api.ErrOrder
	}
	if proved, ok := proves(s, p); !ok || bound > proved {
		return api.ErrCertificate
	}
	return api.OK
}

func isIncreasing(l []int) bool {
	for i := 1; i < len(l); i++ {
		if l[i-1] >= l[i] {
			return false
		}
	}
	return true
}

// proves returns the bound that the indices of a proof prove; false if they prove none.
func proves(s task.Shop, p Proof) (int, bool) {
	length := 0
	for k, i := range p.Chain {
		if k > 0 && !slices.Contains(s.Tasks[i].After, p.Chain[k-1]) {
			return 0, false
		}
		length += s.Tasks[i].Duration
	}
	if len(p.Tasks) == 0 {
		return length, true
	}
	able := ableStations(s)
	if slices.ContainsFunc(p.Tasks, func(i int) bool { return !isWithin(able[i], p.Stations) }) {
		return 0, false
	}
	return value(s, p.Tasks, p.Stations, heads(s), rests(s)), true
}
