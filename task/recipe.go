package task

import (
	"slices"
	"strconv"

	"dowel/api"
	"dowel/naming"
	"dowel/plan"
)

// Rule says which tool is needed for joins along a direction.
type Rule struct {
	Direction api.Point
	Tool      string
}

// Recipe makes tasks of joins: a join takes Base, and Each for each instance that is added; its tool is that of the first rule with its direction.
type Recipe struct {
	Base, Each int
	Rules      []Rule
}

// CheckRecipe returns OK for a valid recipe.
func CheckRecipe(r Recipe) api.Errno {
	const most = api.MaxSmall / 16
	if r.Base < 0 || r.Base > most || r.Each < 0 || r.Each > most {
		return api.ErrRange
	}
	if r.Base == 0 && r.Each == 0 {
		return api.ErrZero
	}
	if len(r.Rules) > api.MaxDirections {
		return api.ErrLimit
	}
	for _, x := range r.Rules {
		if e := plan.CheckDirection(x.Direction); e != api.OK {
			return e
		}
		if !naming.Is(x.Tool) {
			return api.ErrName
		}
	}
	return api.OK
}

// tool returns the tool for a direction, or nothing.
func (r Recipe) tool(d api.Point) string {
	for _, x := range r.Rules {
		if x.Direction == d {
			return x.Tool
		}
	}
	return ""
}

// FromPlan returns the tasks of a plan.
func FromPlan(p api.Plan, n int, r Recipe) ([]Task, api.Errno) {
	joins, e := plan.Assemble(p, n)
	if e != api.OK {
		return nil, e
	}
	if e := CheckRecipe(r); e != api.OK {
		return nil, e
	}
	if len(joins) > api.MaxTasks {
		return nil, api.ErrLimit
	}
	var l []Task
	for i, j := range joins {
		t := Task{Name: "join-" + strconv.Itoa(i), Duration: r.Base + r.Each*len(j.Added), Tool: r.tool(j.Direction)}
		if len(p.Splits) > 0 {
			t.After = needed(joins[:i], j)
		} else if i > 0 {
			t.After = []int{i - 1}
		}
		l = append(l, t)
	}
	return l, api.OK
}

// needed returns the earlier joins that make what a join puts together.
func needed(earlier []plan.Join, j plan.Join) []int {
	var l []int
	for i, x := range earlier {
		whole := slices.Concat(x.Base, x.Added)
		slices.Sort(whole)
		if slices.Equal(whole, j.Base) || slices.Equal(whole, j.Added) {
			l = append(l, i)
		}
	}
	return l
}
