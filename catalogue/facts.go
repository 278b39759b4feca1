package catalogue

import (
	"slices"

	"dowel/api"
	"dowel/pair"
)

// Move says that an instance can be moved out along an axis: 0 to 5 for x, -x, y, -y, z and -z.
type Move struct{ Instance, Axis int }

// Joint says which kind of pair (19) two instances form.
type Joint struct{ A, B, Kind int }

// Facts is what is known about a product.
type Facts struct {
	Touching        [][2]int
	Moves           []Move
	Joints          []Joint
	Possible        bool
	Plan            api.Plan
	Stands          bool
	Volume          int
	Least, Greatest int
}

// The axes.
const (
	right = 0
	left  = 1
	back  = 2
	front = 3
	up    = 4
	down  = 5
)

// kind is what is known about the products of a kind with n things.
type kind struct {
	name        string
	least, most int
	boxes       func(n int) boxes
	joints      func(n int) []Joint         // of all instances that touch
	moves       func(n, instance int) []int // the axes along which an instance can be moved out
	steps       func(n int) []Move          // that take everything apart
	stands      bool
	volume      func(n int) int
}

// kinds returns all kinds, beginning with the number 1.
func kinds() []kind {
	return []kind{
		{"stack", 2, 6, stackBoxes, stackJoints, stackMoves, func(n int) []Move { return falling(n-1, up) }, true, func(n int) int { return n }},
		{"peg", 1, 3, pegBoxes, pegJoints, pegMoves, func(n int) []Move { return rising(n, up) }, false, func(n int) int { return 8*n + 3 }},
		{"slide", 1, 3, slideBoxes, slideJoints, slideMoves, func(n int) []Move { return falling(n, back) }, true, func(n int) int { return 16 * n }},
		{"links", 2, 4, linkBoxes, func(int) []Joint { return nil }, func(int, int) []int { return nil }, nil, false, func(n int) int { return 20 * n }},
		{"nest", 1, 3, nestBoxes, nestJoints, nestMoves, nestSteps, true, func(n int) int { return 9*n + 18 }},
		{"tunnel", 1, 4, tunnelBoxes, tunnelJoints, tunnelMoves, func(n int) []Move { return falling(n, right) }, true, func(n int) int { return 9*n + 9 }},
	}
}

// rising returns the steps of the instances from 1 to last along an axis, falling those in the reverse order.
func rising(last, axis int) []Move {
	var l []Move
	for i := 1; i <= last; i++ {
		l = append(l, Move{i, axis})
	}
	return l
}

func falling(last, axis int) []Move {
	l := rising(last, axis)
	slices.Reverse(l)
	return l
}

// chain returns the joints of the things from one number to another one with those behind them.
func chain(first, last int) []Joint {
	var l []Joint
	for k := first; k < last; k++ {
		l = append(l, Joint{k, k + 1, pair.Planar})
	}
	return l
}

// hub returns the joints of the instance 0 with n things.
func hub(n int, kindOf func(k int) int) []Joint {
	var l []Joint
	for k := 1; k <= n; k++ {
		l = append(l, Joint{0, k, kindOf(k)})
	}
	return l
}

func stackJoints(n int) []Joint { return chain(0, n-1) }

func stackMoves(n, i int) []int {
	l := []int{right, left, back, front}
	if i == n-1 {
		l = append(l, up)
	}
	if i == 0 {
		l = append(l, down)
	}
	return l
}

func pegJoints(n int) []Joint { return hub(n, func(int) int { return pair.Prismatic }) }

func pegMoves(int, int) []int { return []int{up, down} }

func slideJoints(n int) []Joint { return append(pegJoints(n), chain(1, n)...) }

func slideMoves(n, i int) []int {
	var l []int
	if i == 0 || i == n {
		l = append(l, back)
	}
	if i == 0 || i == 1 {
		l = append(l, front)
	}
	return l
}

func nestJoints(n int) []Joint {
	l := append(hub(n, func(k int) int {
		if k == 1 || k == n {
			return pair.Fixed
		}
		return pair.Prismatic
	}), Joint{0, n + 1, pair.Planar})
	for k := 1; k <= n; k++ {
		if k < n {
			l = append(l, Joint{k, k + 1, pair.Planar})
		}
		l = append(l, Joint{k, n + 1, pair.Planar})
	}
	return l
}

func nestMoves(n, i int) []int {
	switch i {
	case 0:
		return []int{down}
	case n + 1:
		return []int{right, left, back, front, up}
	}
	return nil
}

func nestSteps(n int) []Move { return append([]Move{{n + 1, up}}, rising(n, up)...) }

func tunnelJoints(n int) []Joint {
	return append(hub(n, func(k int) int {
		if k == 1 {
			return pair.Fixed
		}
		return pair.Prismatic
	}), chain(1, n)...)
}

func tunnelMoves(n, i int) []int {
	switch i {
	case 0:
		return []int{left}
	case n:
		return []int{right}
	}
	return nil
}

// Known returns the facts about the product of a recipe.
func Known(r Recipe) (Facts, api.Errno) {
	if e := Check(r); e != api.OK {
		return Facts{}, e
	}
	k, _ := kindOf(r.Kind)
	f := Facts{Joints: k.joints(r.Count), Stands: k.stands, Volume: k.volume(r.Count) * r.Scale * r.Scale * r.Scale}
	for _, j := range f.Joints {
		f.Touching = append(f.Touching, [2]int{j.A, j.B})
	}
	for i := range assemble(k, r).Instances {
		for _, axis := range k.moves(r.Count, i) {
			f.Moves = append(f.Moves, Move{i, axis})
		}
	}
	if k.steps != nil {
		f.Possible, f.Plan = true, planOf(k.steps(r.Count))
	}
	f.Least, f.Greatest = bounds(r)
	return f, api.OK
}

// planOf returns the plan of steps of single instances.
func planOf(l []Move) api.Plan {
	p := api.Plan{Kind: api.Kind{Blocking: api.Far, Directions: Axes()}, Most: 1}
	for _, m := range l {
		p.Steps = append(p.Steps, api.Step{Moved: []int{m.Instance}, Direction: Axes()[m.Axis]})
	}
	return p
}
