package task

import (
	"fmt"
	"math/rand"
	"slices"
	"strings"
	"testing"

	"dowel/api"
	"dowel/plan"
)

// example is the shop of the document's first example, with two stations.
func example() Shop {
	return Shop{
		Tasks:    []Task{{Name: "a", Duration: 3}, {Name: "b", Duration: 2, After: []int{0}}, {Name: "c", Duration: 4, After: []int{0}, Tool: "saw"}, {Name: "d", Duration: 1, After: []int{0, 1, 2}}},
		Stations: []Station{{Name: "s", Tools: []string{"saw"}}, {Name: "t", Tools: []string{"drill", "saw"}}},
	}
}

// with returns the example with a change.
func with(change func(s *Shop)) Shop {
	s := example()
	change(&s)
	return s
}

// P49.1
func TestCheck(t *testing.T) {
	tasks := func(n int) []Task {
		var l []Task
		for i := range n {
			l = append(l, Task{Name: fmt.Sprint("t", i), Duration: 1})
		}
		return l
	}
	tools := func(n int) []string {
		var l []string
		for i := range n {
			l = append(l, fmt.Sprint("tool", 10+i))
		}
		return l
	}
	task := func(change func(t *Task)) Shop {
		return with(func(s *Shop) { change(&s.Tasks[2]) })
	}
	station := func(x Station) Shop {
		return with(func(s *Shop) { s.Stations[0] = x })
	}
	for i, c := range []struct {
		s    Shop
		want api.Errno
	}{
		{example(), api.OK}, {Shop{}, api.OK}, {Shop{Tasks: tasks(24), Stations: make([]Station, 8)}, api.ErrName}, {Shop{Tasks: tasks(24), Stations: example().Stations}, api.OK},
		{Shop{Tasks: make([]Task, 25), Stations: make([]Station, 9)}, api.ErrLimit}, {Shop{Tasks: make([]Task, 1), Stations: make([]Station, 9)}, api.ErrLimit},
		{task(func(t *Task) { t.Name, t.Duration = "a b", 0 }), api.ErrName}, {task(func(t *Task) { t.Name, t.Duration = "a", 0 }), api.ErrDuplicate}, {task(func(t *Task) { t.Duration, t.Tool = 0, "a b" }), api.ErrRange}, {task(func(t *Task) { t.Duration = api.MaxSmall + 1 }), api.ErrRange}, {task(func(t *Task) { t.Duration = api.MaxSmall }), api.OK}, {task(func(t *Task) { t.Tool, t.After = "a b", []int{9} }), api.ErrName}, {task(func(t *Task) { t.Tool = strings.Repeat("x", 41) }), api.ErrName},
		{task(func(t *Task) { t.After = []int{1, 0, 4} }), api.ErrOrder}, {task(func(t *Task) { t.After = []int{4} }), api.ErrRange}, {task(func(t *Task) { t.After = []int{-1} }), api.ErrRange}, {task(func(t *Task) { t.After = []int{1, 1} }), api.ErrOrder}, {task(func(t *Task) { t.After = []int{2, 1} }), api.ErrConflict}, {task(func(t *Task) { t.After = []int{0, 3} }), api.ErrCycle}, {with(func(s *Shop) { s.Tasks[0].After = []int{3}; s.Stations[0].Name = "" }), api.ErrCycle}, {with(func(s *Shop) { s.Tasks[0].After = []int{3}; s.Tasks[3].Duration = 0 }), api.ErrRange},
		{station(Station{Name: "", Tools: tools(17)}), api.ErrName}, {station(Station{Name: "t", Tools: tools(16)}), api.ErrDuplicate}, {with(func(s *Shop) { s.Stations[1] = Station{Name: "s", Tools: tools(17)} }), api.ErrDuplicate}, {station(Station{Name: "x", Tools: append(tools(16), "")}), api.ErrLimit}, {station(Station{Name: "x", Tools: tools(16)}), api.OK}, {station(Station{Name: "x", Tools: []string{"b", "a", ""}}), api.ErrOrder}, {station(Station{Name: "x", Tools: []string{"b", "b"}}), api.ErrOrder}, {station(Station{Name: "x", Tools: []string{"b", ""}}), api.ErrName},
		{task(func(t *Task) { t.Tool = "press" }), api.ErrNotFound}, {Shop{Tasks: tasks(1)}, api.ErrNotFound}, {with(func(s *Shop) { s.Stations = s.Stations[:1] }), api.OK}, {with(func(s *Shop) { s.Stations[0].Tools, s.Stations[1].Tools = nil, nil }), api.ErrNotFound},
	} {
		if e := Check(c.s); e != c.want {
			t.Errorf("%d: Check = %d, not %d", i, e, c.want)
		}
		if c.want == api.OK {
			continue
		}
		able, e1 := Able(c.s, 99)
		order, e2 := Order(c.s)
		before, e3 := Before(c.s)
		reduced, e4 := Reduce(c.s)
		tails, e5 := Tails(c.s)
		length, path, e6 := Critical(c.s)
		load, e7 := Load(c.s, nil)
		if able != nil || order != nil || before != nil || reduced.Tasks != nil || tails != nil || length != 0 || path != nil || load != 0 || !slices.Equal([]api.Errno{e1, e2, e3, e4, e5, e6, e7}, slices.Repeat([]api.Errno{c.want}, 7)) {
			t.Errorf("%d: a function has another error", i)
		}
	}
}

// P49.1
func TestCheckRecipe(t *testing.T) {
	const most = api.MaxSmall / 16
	up := api.Point{"0", "0", "1"}
	for i, c := range []struct {
		r    Recipe
		want api.Errno
	}{
		{Recipe{Base: 1}, api.OK}, {Recipe{Each: 1}, api.OK}, {Recipe{most, most, slices.Repeat([]Rule{{up, "x"}}, 64)}, api.OK}, {Recipe{Base: -1}, api.ErrRange}, {Recipe{Base: most + 1}, api.ErrRange}, {Recipe{Base: 1, Each: -1}, api.ErrRange}, {Recipe{Each: most + 1, Rules: make([]Rule, 65)}, api.ErrRange}, {Recipe{Rules: make([]Rule, 65)}, api.ErrZero}, {Recipe{1, 1, make([]Rule, 65)}, api.ErrLimit}, {Recipe{1, 1, []Rule{{api.Point{"0", "0", "2"}, ""}}}, api.ErrForm}, {Recipe{1, 1, []Rule{{up, ""}, {}}}, api.ErrName}, {Recipe{1, 1, []Rule{{up, "x"}, {}}}, api.ErrSyntax}, {Recipe{1, 1, []Rule{{up, "x"}, {api.Point{"0", "0", "0"}, "x"}}}, api.ErrZero},
	} {
		if e := CheckRecipe(c.r); e != c.want {
			t.Errorf("%d: CheckRecipe = %d, not %d", i, e, c.want)
		}
		p := api.Plan{Kind: api.Kind{Blocking: api.Far}, Splits: []api.Split{{Whole: []int{0, 1}, Moved: []int{0}, Direction: up}}}
		if l, e := FromPlan(p, 2, c.r); e != c.want || e != api.OK && l != nil {
			t.Errorf("%d: FromPlan = %v, %d", i, l, e)
		}
	}
}

func points(words string) api.Point {
	f := strings.Fields(words)
	return api.Point{api.Number(f[0]), api.Number(f[1]), api.Number(f[2])}
}

// P49.2
func TestFromPlan(t *testing.T) {
	far := api.Kind{Blocking: api.Far}
	splits := api.Plan{Kind: far, Splits: []api.Split{{Whole: []int{0, 1, 2, 3}, Moved: []int{0, 1}, Direction: points("1 0 0")}, {Whole: []int{0, 1}, Moved: []int{0}, Direction: points("0 0 1")}, {Whole: []int{2, 3}, Moved: []int{2}, Direction: points("0 0 -1")}}}
	steps := api.Plan{Kind: far, Steps: []api.Step{{Moved: []int{1, 2}, Direction: points("1 0 0"), Distance: "1/2"}, {Moved: []int{2}, Direction: points("0 0 1")}, {Moved: []int{0}, Direction: points("0 0 1")}}}
	chain := api.Plan{Kind: far, Splits: []api.Split{{Whole: []int{0, 1, 2}, Moved: []int{1}, Direction: points("1 0 0")}, {Whole: []int{0, 2}, Moved: []int{0}, Direction: points("1 0 0")}}}
	r := Recipe{2, 1, []Rule{{points("0 0 -1"), "press"}, {points("0 0 -1"), "saw"}, {points("-1 0 0"), "drill"}}}
	for i, c := range []struct {
		p    api.Plan
		n    int
		want string
	}{
		{splits, 4, "[{join-0 3  []} {join-1 3 press []} {join-2 4 drill [0 1]}]"}, {steps, 3, "[{join-0 3 press []} {join-1 3 press [0]} {join-2 4 drill [1]}]"}, {chain, 3, "[{join-0 3 drill []} {join-1 3 drill [0]}]"}, {api.Plan{Kind: far}, 1, "[]"},
	} {
		l, e := FromPlan(c.p, c.n, r)
		if fmt.Sprint(l) != c.want || e != api.OK {
			t.Errorf("%d: FromPlan = %v, %d", i, l, e)
		}
	}
	long := api.Plan{Kind: far}
	for range 25 {
		long.Steps = append(long.Steps, steps.Steps[0])
	}
	if l, e := FromPlan(long, 3, r); l != nil || e != api.ErrLimit {
		t.Errorf("FromPlan = %v, %d", l, e)
	}
	if l, e := FromPlan(long, 3, Recipe{}); l != nil || e != api.ErrZero {
		t.Errorf("FromPlan = %v, %d", l, e)
	}
	long.Steps = long.Steps[:24]
	if l, e := FromPlan(long, 3, r); len(l) != 24 || e != api.OK {
		t.Errorf("FromPlan = %v, %d", l, e)
	}
	if l, e := FromPlan(splits, 3, Recipe{}); l != nil || e != api.ErrRange {
		t.Errorf("FromPlan = %v, %d", l, e)
	}
}

// P49.3, P49.4
func TestOrders(t *testing.T) {
	s := example()
	for i, want := range [][]int{{0, 1}, {0, 1}, {0, 1}, {0, 1}} {
		if l, e := Able(s, i); !slices.Equal(l, want) || e != api.OK {
			t.Errorf("Able = %v, %d", l, e)
		}
	}
	s.Tasks[1].Tool = "drill"
	if l, e := Able(s, 1); !slices.Equal(l, []int{1}) || e != api.OK {
		t.Errorf("Able = %v, %d", l, e)
	}
	for _, i := range []int{-1, 4} {
		if l, e := Able(s, i); l != nil || e != api.ErrRange {
			t.Errorf("Able = %v, %d", l, e)
		}
	}
	backwards := Shop{[]Task{{"x", 2, "", []int{2}}, {"y", 2, "", nil}, {"z", 2, "", []int{1, 3}}, {"w", 2, "", nil}}, example().Stations}
	for i, c := range []struct {
		s                             Shop
		order, before, after, reduced string
		length                        int
		path                          string
	}{
		{example(), "[0 1 2 3]", "[[] [0] [0] [0 1 2]]", "[8 3 5 1]", "[[] [0] [0] [1 2]]", 8, "[0 2 3]"}, {backwards, "[1 3 2 0]", "[[1 2 3] [] [1 3] []]", "[2 6 4 6]", "[[2] [] [1 3] []]", 6, "[1 2 0]"}, {Shop{}, "[]", "[]", "[]", "[]", 0, "[]"},
		{Shop{[]Task{{"a", 5, "", nil}, {"b", 5, "", nil}}, example().Stations}, "[0 1]", "[[] []]", "[5 5]", "[[] []]", 5, "[0]"}, {Shop{[]Task{{"a", 1, "", []int{1}}, {"b", 1, "", []int{2}}, {"c", 1, "", nil}, {"d", 3, "", nil}}, example().Stations}, "[2 1 0 3]", "[[1 2] [2] [] []]", "[1 2 3 3]", "[[1] [2] [] []]", 3, "[2 1 0]"},
	} {
		order, e1 := Order(c.s)
		before, e2 := Before(c.s)
		tails, e3 := Tails(c.s)
		reduced, e4 := Reduce(c.s)
		var after [][]int
		for _, x := range reduced.Tasks {
			after = append(after, x.After)
		}
		length, path, e5 := Critical(c.s)
		if fmt.Sprint(order) != c.order || fmt.Sprint(before) != c.before || fmt.Sprint(tails) != c.after || fmt.Sprint(after) != c.reduced || length != c.length || fmt.Sprint(path) != c.path || e1+e2+e3+e4+e5 != api.OK {
			t.Errorf("%d: %v, %v, %v, %v, %d, %v", i, order, before, tails, after, length, path)
		}
	}
	reduced, _ := Reduce(s)
	reduced.Stations[0].Tools[0], reduced.Tasks[1].After[0] = "x", 9
	if s.Stations[0].Tools[0] != "saw" || s.Tasks[1].After[0] != 0 {
		t.Error("memory is shared")
	}
}

// P49.5
func TestLoad(t *testing.T) {
	s := Shop{[]Task{{"a", 5, "drill", nil}, {"b", 4, "saw", nil}, {"c", 100, "", nil}}, []Station{{"s", []string{"saw"}}, {"t", []string{"drill", "saw"}}, {"u", nil}}}
	for i, c := range []struct {
		stations []int
		want     int
		e        api.Errno
	}{
		{[]int{1}, 5, 0}, {[]int{0, 1}, 5, 0}, {[]int{0}, 0, 0}, {[]int{0, 1, 2}, 37, 0}, {[]int{1, 2}, 3, 0}, {nil, 0, api.ErrEmpty}, {[]int{3}, 0, api.ErrRange}, {[]int{-1}, 0, api.ErrRange}, {[]int{1, 0, 3}, 0, api.ErrOrder}, {[]int{1, 1}, 0, api.ErrOrder},
	} {
		if load, e := Load(s, c.stations); load != c.want || e != c.e {
			t.Errorf("%d: Load = %d, %d", i, load, e)
		}
	}
}

// P49.6
func TestEqual(t *testing.T) {
	if !Equal(example(), example()) || !Equal(Shop{}, Shop{Tasks: []Task{}}) || !Equal(Shop{Tasks: []Task{{After: []int{}}}}, Shop{Tasks: []Task{{}}}) {
		t.Error("Equal = false")
	}
	for i, change := range []func(s *Shop){
		func(s *Shop) { s.Tasks[0].Name = "x" }, func(s *Shop) { s.Tasks[0].Duration = 9 }, func(s *Shop) { s.Tasks[0].Tool = "saw" }, func(s *Shop) { s.Tasks[3].After = []int{1, 2} }, func(s *Shop) { s.Tasks = s.Tasks[:3] }, func(s *Shop) { s.Stations[0].Name = "x" }, func(s *Shop) { s.Stations[1].Tools[0] = "x" }, func(s *Shop) { s.Stations = nil },
	} {
		if s := with(change); Equal(s, example()) || Equal(example(), s) {
			t.Errorf("%d: Equal = true", i)
		}
	}
}

func random(r *rand.Rand) Shop {
	s := Shop{Stations: example().Stations}
	places := r.Perm(r.Intn(9))
	for i := range places {
		x := Task{Name: fmt.Sprint("t", i), Duration: 1 + r.Intn(5)}
		for k := range places {
			if places[k] < places[i] && r.Intn(3) == 0 {
				x.After = append(x.After, k)
			}
		}
		s.Tasks = append(s.Tasks, x)
	}
	return s
}

// P49.7
func TestConsequences(t *testing.T) {
	r := rand.New(rand.NewSource(1))
	for range 800 {
		s := random(r)
		text := fmt.Sprint(s)
		before, _ := Before(s)
		reduced, e := Reduce(s)
		again, _ := Before(reduced)
		length, path, _ := Critical(s)
		length2, path2, _ := Critical(reduced)
		if e != api.OK || fmt.Sprint(before) != fmt.Sprint(again) || length != length2 || !slices.Equal(path, path2) {
			t.Fatalf("Reduce changes %v and %v to %v and %v", before, path, again, path2)
		}
		order, _ := Order(s)
		for i, l := range before {
			for _, k := range l {
				if slices.Index(order, k) >= slices.Index(order, i) {
					t.Fatalf("in the order %v, %d does not come before %d", order, k, i)
				}
			}
		}
		tails, _ := Tails(s)
		if len(tails) > 0 && slices.Max(tails) != length {
			t.Fatalf("the tails are %v, the longest chain %d", tails, length)
		}
		checkChains(t, s, length, path)
		if fmt.Sprint(s) != text {
			t.Fatal("an argument is changed")
		}
	}
}

// checkChains goes through all chains.
func checkChains(t *testing.T, s Shop, length int, path []int) {
	var best []int
	most := 0
	var extend func(chain []int, sum int)
	extend = func(chain []int, sum int) {
		if sum > most || sum == most && slices.Compare(chain, best) < 0 {
			most, best = sum, slices.Clone(chain)
		}
		for i, x := range s.Tasks {
			if len(chain) == 0 || slices.Contains(x.After, chain[len(chain)-1]) {
				extend(append(slices.Clone(chain), i), sum+x.Duration)
			}
		}
	}
	extend(nil, 0)
	if most != length || !slices.Equal(best, path) {
		t.Fatalf("Critical = %d, %v, not %d, %v", length, path, most, best)
	}
}

// P49.7: tasks of plans can be done in the order of the joins.
func TestTasksOfPlans(t *testing.T) {
	r := rand.New(rand.NewSource(2))
	for range 200 {
		n := 2 + r.Intn(6)
		p := api.Plan{Kind: api.Kind{Blocking: api.Far}}
		var all []int
		for i := range n {
			all = append(all, i)
		}
		open := [][]int{all}
		for len(open) > 0 {
			at := r.Intn(len(open))
			whole := open[at]
			open = slices.Delete(open, at, at+1)
			if len(whole) < 2 {
				continue
			}
			cut := r.Perm(len(whole))[:1+r.Intn(len(whole)-1)]
			slices.Sort(cut)
			var moved []int
			for _, k := range cut {
				moved = append(moved, whole[k])
			}
			x := api.Split{Whole: whole, Moved: moved, Direction: points("0 0 1")}
			p.Splits = append(p.Splits, x)
			open = append(open, moved, plan.Rest(x))
		}
		l, e := FromPlan(p, n, Recipe{Base: 1})
		s := Shop{l, []Station{{Name: "s"}}}
		if e != api.OK || Check(s) != api.OK {
			t.Fatalf("FromPlan = %v, %d", l, e)
		}
		joins, _ := plan.Assemble(p, n)
		made := map[string]int{}
		for i, j := range joins {
			var want []int
			for _, half := range [][]int{j.Base, j.Added} {
				if k, ok := made[fmt.Sprint(half)]; ok {
					want = append(want, k)
				}
			}
			slices.Sort(want)
			if !slices.Equal(l[i].After, want) {
				t.Fatalf("the task %d comes behind %v, not %v", i, l[i].After, want)
			}
			whole := slices.Concat(j.Base, j.Added)
			slices.Sort(whole)
			made[fmt.Sprint(whole)] = i
		}
	}
}
