package schedule

import (
	"fmt"
	"math/rand"
	"slices"
	"testing"

	"dowel/api"
	"dowel/task"
)

// example is the shop of the document's first example: a (3), b (2), c (4, behind a), and two stations.
func example() task.Shop {
	return task.Shop{
		Tasks:    []task.Task{{Name: "a", Duration: 3}, {Name: "b", Duration: 2}, {Name: "c", Duration: 4, After: []int{0}}},
		Stations: []task.Station{{Name: "s"}, {Name: "t", Tools: []string{"saw"}}},
	}
}

// with returns the example with a change.
func with(change func(s *task.Shop)) task.Shop {
	s := example()
	change(&s)
	return s
}

// equal returns so many tasks of a duration, for so many stations.
func equal(tasks, duration, stations int) task.Shop {
	var s task.Shop
	for i := range tasks {
		s.Tasks = append(s.Tasks, task.Task{Name: fmt.Sprint("t", i), Duration: duration})
	}
	for i := range stations {
		s.Stations = append(s.Stations, task.Station{Name: fmt.Sprint("s", i)})
	}
	return s
}

// jobs returns jobs, given as station and start in turn.
func jobs(l ...int) []api.Job {
	var made []api.Job
	for i := 0; i < len(l); i += 2 {
		made = append(made, api.Job{Task: i / 2, Station: l[i], Start: l[i+1]})
	}
	return made
}

// P50.1
func TestCheck(t *testing.T) {
	sawn := with(func(s *task.Shop) { s.Tasks[1].Tool = "saw" })
	const last = api.MaxSmall * api.MaxTasks
	for i, c := range []struct {
		s    task.Shop
		l    []api.Job
		want api.Errno
	}{
		{example(), jobs(0, 0, 1, 0, 0, 3), api.OK}, {example(), jobs(0, 0, 0, 3, 1, 3), api.OK}, {example(), jobs(0, 5, 0, 3, 1, 8), api.OK}, {task.Shop{}, nil, api.OK}, {example(), jobs(0, 0, 1, last, 0, 3), api.OK}, {sawn, jobs(0, 0, 1, 0, 0, 3), api.OK},
		{with(func(s *task.Shop) { s.Tasks[0].Duration = 0 }), nil, api.ErrRange}, {example(), jobs(0, 0, 1, 0), api.ErrSize}, {example(), jobs(0, 0, 1, 0, 0, 3, 0, 9), api.ErrSize}, {example(), []api.Job{{Task: 1, Station: 9}, {}, {}}, api.ErrOrder}, {example(), []api.Job{{}, {Task: 1, Station: 2}, {}}, api.ErrRange}, {example(), jobs(0, 0, -1, 0, 0, 3), api.ErrRange}, {example(), jobs(0, -1, 1, 0, 0, 3), api.ErrRange}, {example(), jobs(0, 0, 1, last+1, 0, 3), api.ErrRange}, {sawn, jobs(0, 0, 0, 0, 9, 3), api.ErrNotFound},
		{example(), jobs(0, 0, 0, 2, 1, 3), api.ErrConflict}, {example(), jobs(0, 3, 0, 2, 1, 6), api.ErrConflict}, {example(), jobs(0, 0, 1, 0, 0, 2), api.ErrConflict}, {example(), jobs(0, 0, 1, 0, 1, 2), api.ErrState}, {example(), jobs(0, 5, 1, 0, 1, 2), api.ErrState}, {example(), jobs(0, 0, 1, 4, 1, 2), api.ErrConflict}, {with(func(s *task.Shop) { s.Tasks[0].After = []int{1} }), jobs(0, 0, 0, 1, 1, 9), api.ErrState}, {sawn, jobs(0, 0, 0, 0, 0, 0), api.ErrNotFound},
	} {
		if e := Check(c.s, c.l); e != c.want {
			t.Errorf("%d: Check = %d, not %d", i, e, c.want)
		}
		if c.want == api.OK {
			continue
		}
		n, e1 := Makespan(c.s, c.l)
		idle, e2 := Idle(c.s, c.l)
		early, e3 := Early(c.s, c.l)
		if n != 0 || idle != nil || early != nil || e1 != c.want || e2 != c.want || e3 != c.want {
			t.Errorf("%d: %d, %d, %d", i, e1, e2, e3)
		}
	}
	bad := with(func(s *task.Shop) { s.Stations = nil })
	order, e1 := Priority(bad, 9)
	l, e2 := List(bad, nil)
	bound, p, e3 := Lower(bad)
	e4 := Verify(bad, 0, Proof{Chain: []int{9}, Tasks: []int{9}})
	best, e5 := Best(bad)
	if order != nil || l != nil || bound != 0 || p.Chain != nil || best != nil || !slices.Equal([]api.Errno{e1, e2, e3, e4, e5}, slices.Repeat([]api.Errno{api.ErrNotFound}, 5)) {
		t.Errorf("%d, %d, %d, %d, %d", e1, e2, e3, e4, e5)
	}
}

// P50.2
func TestMakespanIdleEarly(t *testing.T) {
	for i, c := range []struct {
		s     task.Shop
		l     []api.Job
		n     int
		idle  string
		early []api.Job
	}{
		{example(), jobs(0, 0, 1, 0, 0, 3), 7, "[0 0]", jobs(0, 0, 1, 0, 0, 3)}, {example(), jobs(0, 5, 1, 4, 1, 9), 13, "[5 7]", jobs(0, 0, 1, 0, 1, 3)}, {example(), jobs(0, 5, 0, 1, 1, 20), 24, "[3 20]", jobs(0, 2, 0, 0, 1, 5)}, {example(), jobs(1, 0, 1, 8, 1, 4), 10, "[0 1]", jobs(1, 0, 1, 7, 1, 3)}, {task.Shop{}, nil, 0, "[]", nil}, {equal(0, 0, 2), nil, 0, "[0 0]", nil}, {equal(2, 3, 3), jobs(2, 7, 2, 4), 10, "[0 0 4]", jobs(2, 3, 2, 0)},
	} {
		n, e1 := Makespan(c.s, c.l)
		idle, e2 := Idle(c.s, c.l)
		early, e3 := Early(c.s, c.l)
		if n != c.n || fmt.Sprint(idle) != c.idle || !slices.Equal(early, c.early) || e1+e2+e3 != api.OK {
			t.Errorf("%d: %d, %v, %v", i, n, idle, early)
		}
	}
}

// P50.3
func TestPriorityAndList(t *testing.T) {
	s := task.Shop{
		Tasks:    []task.Task{{Name: "a", Duration: 2}, {Name: "b", Duration: 3, After: []int{2}}, {Name: "c", Duration: 2}, {Name: "d", Duration: 3, Tool: "saw"}},
		Stations: example().Stations,
	}
	for rule, want := range map[int][]int{ByTail: {2, 1, 3, 0}, ByDuration: {1, 3, 0, 2}, ByIndex: {0, 1, 2, 3}} {
		if order, e := Priority(s, rule); !slices.Equal(order, want) || e != api.OK {
			t.Errorf("Priority(%d) = %v, %d", rule, order, e)
		}
	}
	for _, rule := range []int{0, 4, -1} {
		if order, e := Priority(s, rule); order != nil || e != api.ErrKind {
			t.Errorf("Priority(%d) = %v, %d", rule, order, e)
		}
	}
	for i, c := range []struct {
		s     task.Shop
		order []int
		want  []api.Job
	}{
		{example(), []int{0, 1, 2}, jobs(0, 0, 1, 0, 0, 3)}, {example(), []int{2, 1, 0}, jobs(1, 0, 0, 0, 0, 3)}, {s, []int{0, 1, 2, 3}, jobs(0, 0, 0, 2, 1, 0, 1, 2)}, {s, []int{3, 2, 1, 0}, jobs(1, 3, 0, 2, 0, 0, 1, 0)}, {equal(5, 2, 2), []int{4, 3, 2, 1, 0}, jobs(0, 4, 1, 2, 0, 2, 1, 0, 0, 0)}, {task.Shop{}, nil, nil},
	} {
		if l, e := List(c.s, c.order); !slices.Equal(l, c.want) || e != api.OK {
			t.Errorf("%d: List = %v, %d", i, l, e)
		}
	}
	for _, order := range [][]int{nil, {0, 1}, {0, 1, 2, 2}, {0, 1, 1}, {0, 1, 3}, {-1, 0, 1}, {0, 1, 2, 3}} {
		if l, e := List(example(), order); l != nil || e != api.ErrOrder {
			t.Errorf("List = %v, %d", l, e)
		}
	}
}

// P50.4
func TestLowerAndVerify(t *testing.T) {
	headed := equal(4, 3, 2)
	headed.Tasks = append(headed.Tasks, task.Task{Name: "first", Duration: 5}, task.Task{Name: "last", Duration: 7, After: []int{0, 1, 2, 3}})
	for i := range 4 {
		headed.Tasks[i].After = []int{4}
	}
	tools := equal(3, 4, 2)
	tools.Stations[1].Tools = []string{"saw"}
	tools.Tasks[0].Tool, tools.Tasks[2].Tool = "saw", "saw"
	for i, c := range []struct {
		s     task.Shop
		bound int
	}{{example(), 7}, {equal(4, 3, 2), 6}, {equal(5, 3, 2), 8}, {equal(3, 3, 3), 3}, {task.Shop{}, 0}, {equal(0, 1, 2), 0}, {headed, 18}, {tools, 8}} {
		bound, p, e := Lower(c.s)
		if bound != c.bound || e != api.OK || Verify(c.s, bound, p) != api.OK || Verify(c.s, bound+1, p) != api.ErrCertificate || Verify(c.s, bound-1, p) != api.OK {
			t.Errorf("%d: Lower = %d, %v, %d", i, bound, p, e)
		}
	}
	if _, p, _ := Lower(task.Shop{}); len(p.Chain)+len(p.Tasks)+len(p.Stations) > 0 {
		t.Errorf("Lower = %v", p)
	}
	for i, c := range []struct {
		s     task.Shop
		bound int
		p     Proof
		want  api.Errno
	}{
		{example(), 7, Proof{Chain: []int{0, 2}}, api.OK}, {example(), 8, Proof{Chain: []int{0, 2}}, api.ErrCertificate}, {example(), 3, Proof{Chain: []int{0}}, api.OK}, {example(), 1, Proof{Chain: []int{2, 0}}, api.ErrCertificate}, {example(), 1, Proof{Chain: []int{0, 1}}, api.ErrCertificate}, {example(), 1, Proof{Chain: []int{0, 0}}, api.ErrCertificate},
		{example(), 0, Proof{}, api.OK}, {example(), -5, Proof{}, api.OK}, {example(), 1, Proof{}, api.ErrCertificate}, {example(), 0, Proof{Stations: []int{1}}, api.OK}, {example(), 1, Proof{Stations: []int{1}}, api.ErrCertificate},
		{example(), 0, Proof{Chain: []int{9}, Tasks: []int{9}}, api.ErrForm}, {example(), 0, Proof{Chain: []int{0}, Stations: []int{0}}, api.ErrForm}, {example(), 0, Proof{Chain: []int{3}}, api.ErrRange}, {example(), 0, Proof{Tasks: []int{2, 1, 0}, Stations: []int{2}}, api.ErrRange}, {example(), 0, Proof{Tasks: []int{-1}, Stations: []int{0}}, api.ErrRange}, {example(), 0, Proof{Tasks: []int{1, 0}, Stations: []int{0, 1}}, api.ErrOrder}, {example(), 0, Proof{Tasks: []int{0, 1}, Stations: []int{1, 1}}, api.ErrOrder},
		{example(), 5, Proof{Tasks: []int{0, 1, 2}, Stations: []int{0, 1}}, api.OK}, {example(), 6, Proof{Tasks: []int{0, 1, 2}, Stations: []int{0, 1}}, api.ErrCertificate}, {example(), 1, Proof{Tasks: []int{0, 1}, Stations: []int{0}}, api.ErrCertificate}, {example(), 0, Proof{Tasks: []int{0}}, api.ErrCertificate}, {example(), 5, Proof{Tasks: []int{2}, Stations: []int{0, 1}}, api.OK}, {example(), 6, Proof{Tasks: []int{0}, Stations: []int{0, 1}}, api.OK}, {example(), 7, Proof{Tasks: []int{0}, Stations: []int{0, 1}}, api.ErrCertificate},
		{tools, 8, Proof{Tasks: []int{0, 2}, Stations: []int{1}}, api.OK}, {tools, 9, Proof{Tasks: []int{0, 2}, Stations: []int{1}}, api.ErrCertificate}, {tools, 8, Proof{Tasks: []int{0, 1, 2}, Stations: []int{1}}, api.ErrCertificate}, {tools, 4, Proof{Tasks: []int{0, 2}, Stations: []int{0, 1}}, api.OK}, {headed, 18, Proof{Tasks: []int{0, 1, 2, 3}, Stations: []int{0, 1}}, api.OK}, {headed, 16, Proof{Tasks: []int{0, 1, 2, 3, 4}, Stations: []int{0, 1}}, api.OK}, {headed, 17, Proof{Tasks: []int{0, 1, 2, 3, 4}, Stations: []int{0, 1}}, api.ErrCertificate},
	} {
		if e := Verify(c.s, c.bound, c.p); e != c.want {
			t.Errorf("%d: Verify = %d, not %d", i, e, c.want)
		}
	}
}

// P50.5
func TestBest(t *testing.T) {
	for i, c := range []struct {
		s task.Shop
		n int
	}{{example(), 7}, {equal(5, 3, 2), 9}, {equal(8, 5, 8), 5}, {equal(8, 5, 3), 15}, {task.Shop{}, 0}, {with(func(s *task.Shop) { s.Stations = s.Stations[:1] }), 9}} {
		l, e := Best(c.s)
		if n, _ := Makespan(c.s, l); n != c.n || e != api.OK {
			t.Errorf("%d: Best = %v, %d", i, l, e)
		}
	}
	if l, e := Best(equal(9, 1, 1)); l != nil || e != api.ErrLimit {
		t.Errorf("Best = %v, %d", l, e)
	}
}

func random(r *rand.Rand, tasks, stations int) task.Shop {
	s := task.Shop{}
	for k := range 1 + r.Intn(stations) {
		x := task.Station{Name: fmt.Sprint("s", k)}
		for _, tool := range []string{"drill", "saw"} {
			if k == 0 || r.Intn(2) == 0 {
				x.Tools = append(x.Tools, tool)
			}
		}
		s.Stations = append(s.Stations, x)
	}
	density := 2 + r.Intn(6)
	for i := range r.Intn(tasks + 1) {
		x := task.Task{Name: fmt.Sprint("t", i), Duration: 1 + r.Intn(6), Tool: []string{"", "", "drill", "saw"}[r.Intn(4)]}
		for k := range i {
			if r.Intn(density) == 0 {
				x.After = append(x.After, k)
			}
		}
		s.Tasks = append(s.Tasks, x)
	}
	return s
}

// permutations calls a function with all orders of n tasks.
func permutations(n int, visit func([]int)) {
	var extend func(l []int)
	extend = func(l []int) {
		if len(l) == n {
			visit(l)
			return
		}
		for i := range n {
			if !slices.Contains(l, i) {
				extend(append(slices.Clone(l), i))
			}
		}
	}
	extend(nil)
}

// shortest gives the tasks to all stations, in all orders.
func shortest(s task.Shop) int {
	best := -1
	permutations(len(s.Tasks), func(order []int) {
		var extend func(t *table, left []int)
		extend = func(t *table, left []int) {
			if len(left) == 0 {
				if n := makespan(s, t.jobs); best < 0 || n < best {
					best = n
				}
				return
			}
			if !t.isReady(left[0]) {
				return
			}
			for _, station := range t.able[left[0]] {
				free := t.free[station]
				t.give(left[0], station)
				extend(t, left[1:])
				t.take(left[0], station, free)
			}
		}
		extend(newTable(s), order)
	})
	return best
}

// greatest looks at all proofs.
func greatest(s task.Shop) int {
	bound, _, _ := task.Critical(s)
	for tasks := uint(1); tasks < 1<<len(s.Tasks); tasks++ {
		for stations := uint(1); stations < 1<<len(s.Stations); stations++ {
			for Verify(s, bound+1, Proof{Tasks: list(tasks), Stations: list(stations)}) == api.OK {
				bound++
			}
		}
	}
	return bound
}

// P50.4, P50.5, P50.6
func TestConsequences(t *testing.T) {
	r := rand.New(rand.NewSource(1))
	for range 150 {
		s := random(r, 5, 3)
		text := fmt.Sprint(s)
		l, e := Best(s)
		best, e2 := Makespan(s, l)
		if e+e2 != api.OK || best != shortest(s) {
			t.Fatalf("Best = %d, not %d (%d, %d)", best, shortest(s), e, e2)
		}
		bound, p, _ := Lower(s)
		if bound > best || bound != greatest(s) || Verify(s, bound, p) != api.OK {
			t.Fatalf("Lower = %d, not %d", bound, greatest(s))
		}
		checkLists(t, r, s, best)
		checkEasier(t, r, s, best)
		if fmt.Sprint(s) != text {
			t.Fatal("an argument is changed")
		}
	}
}

// checkLists compares list schedules, and delayed ones made early, with the best schedule.
func checkLists(t *testing.T, r *rand.Rand, s task.Shop, best int) {
	order := r.Perm(len(s.Tasks))
	l, e := List(s, order)
	n, e2 := Makespan(s, l)
	if e+e2 != api.OK || n < best {
		t.Fatalf("List = %v, %d, %d, the best one %d", l, e, e2, best)
	}
	late := slices.Clone(l)
	for i := range late {
		late[i].Start = late[i].Start*3 + r.Intn(3)
	}
	if Check(s, late) != api.OK {
		return
	}
	early, e := Early(s, late)
	again, _ := Early(s, early)
	before, _ := Makespan(s, late)
	after, e2 := Makespan(s, early)
	if e+e2 != api.OK || after > before || !slices.Equal(early, again) {
		t.Fatalf("Early = %v, %d, %d", early, e, e2)
	}
	for i := range early {
		for k := range early {
			if late[i].Station == late[k].Station && (late[i].Start < late[k].Start) != (early[i].Start < early[k].Start) || early[i].Station != late[i].Station {
				t.Fatalf("Early = %v, of %v", early, late)
			}
		}
	}
}

// checkEasier looks for best schedules of shops that ask for less, and of one that asks for twice as much.
func checkEasier(t *testing.T, r *rand.Rand, s task.Shop, best int) {
	length := func(s task.Shop) int {
		l, _ := Best(s)
		n, e := Makespan(s, l)
		if e != api.OK {
			t.Fatalf("Makespan: %d", e)
		}
		return n
	}
	more := s
	more.Stations = append(slices.Clone(s.Stations), task.Station{Name: "more", Tools: []string{"saw"}})
	if n := length(more); n > best {
		t.Fatalf("with a further station, the best makespan is %d, not %d", n, best)
	}
	if len(s.Tasks) == 0 {
		return
	}
	free, twice := s, s
	free.Tasks, twice.Tasks = slices.Clone(s.Tasks), slices.Clone(s.Tasks)
	free.Tasks[r.Intn(len(s.Tasks))].After = nil
	for i := range twice.Tasks {
		twice.Tasks[i].Duration *= 2
	}
	if n, m := length(free), length(twice); n > best || m != 2*best {
		t.Fatalf("without an After %d, with twice the durations %d, otherwise %d", n, m, best)
	}
}

// Full shops are examined in a short time.
func TestFullShop(t *testing.T) {
	s := equal(api.MaxTasks, api.MaxSmall, task.MaxStations)
	bound, p, e := Lower(s)
	if bound != 3*api.MaxSmall || e != api.OK || Verify(s, bound, p) != api.OK {
		t.Errorf("Lower = %d, %d", bound, e)
	}
	order, _ := Priority(s, ByTail)
	if l, e := List(s, order); e != api.OK || makespan(s, l) != bound {
		t.Errorf("List = %v, %d", l, e)
	}
}
