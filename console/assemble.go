package console

import (
	"strconv"
	"strings"

	"dowel/api"
	"dowel/assembly"
	"dowel/blocking"
	"dowel/document"
	"dowel/impossible"
	"dowel/label"
	"dowel/pair"
	"dowel/plan"
	"dowel/planner"
	"dowel/removable"
	"dowel/stability"
)

func (c *Console) load(x *exchange) api.Errno {
	p, _, _, e := document.Parse(x.rest)
	if e != api.OK {
		return e
	}
	*c = Console{product: p, hasProduct: true}
	x.add(label.Text(p.Name), ":")
	for i, count := range []struct {
		n    int
		word string
	}{{len(p.Assembly.Parts), "parts"}, {len(p.Assembly.Instances), "instances"}, {len(p.Dimensions), "dimensions"}, {len(p.Requirements), "requirements"}} {
		if i > 0 {
			x.add(",")
		}
		x.add(" ", strconv.Itoa(count.n), " ", count.word)
	}
	return api.OK
}

func (c *Console) print(x *exchange) api.Errno {
	if e := x.end(); e != api.OK {
		return e
	}
	text, e := document.Print(c.product)
	x.add(strings.TrimSuffix(text, "\n"))
	return e
}

func (c *Console) check(x *exchange) api.Errno {
	if e := x.end(); e != api.OK {
		return e
	}
	i, k, e := assembly.Sound(c.product.Assembly)
	switch e {
	case api.OK:
		x.add("sound")
	case api.ErrPenetrate:
		// A part whose cells penetrate one another has the same error, and no pair.
		if i == k {
			return e
		}
		x.instances(c.product.Assembly, []int{i}, "")
		x.instances(c.product.Assembly, []int{k}, " and ")
		x.add(" penetrate")
	default:
		return e
	}
	return api.OK
}

func (c *Console) touch(x *exchange) api.Errno {
	if e := x.end(); e != api.OK {
		return e
	}
	pairs, e := assembly.Pairs(c.product.Assembly)
	if e != api.OK {
		return e
	}
	for _, p := range pairs {
		word := " touches "
		if p.Status == api.Meeting {
			word = " meets "
		}
		x.line()
		x.instances(c.product.Assembly, []int{p.A}, "")
		x.instances(c.product.Assembly, []int{p.B}, word)
	}
	return api.OK
}

func (c *Console) pair(x *exchange) api.Errno {
	names := []string{x.name(), x.name()}
	if e := x.end(); e != api.OK {
		return e
	}
	l, e := find(c.product.Assembly, names)
	if e != api.OK {
		return e
	}
	j, e := pair.Of(c.product.Assembly, l[:1], l[1:])
	if e != api.OK {
		return e
	}
	name, _ := pair.Name(j.Kind)
	x.add(name, ", ", strconv.Itoa(j.Degrees))
	if j.Closed {
		x.add(" closed")
	} else {
		x.add(" open")
	}
	return api.OK
}

func (c *Console) arcs(x *exchange) api.Errno {
	blockingKind, d := x.kind(), x.point()
	if e := x.end(); e != api.OK {
		return e
	}
	a := c.product.Assembly
	scene, e := blocking.Open(a)
	if e != api.OK {
		return e
	}
	arcs, e := scene.Arcs(all(a), d, blockingKind)
	if e != api.OK {
		return e
	}
	for _, arc := range arcs {
		x.line()
		x.instances(a, []int{arc.From}, "")
		x.instances(a, []int{arc.To}, " -> ")
	}
	return api.OK
}

func (c *Console) sets(x *exchange) api.Errno {
	blockingKind, d, most := x.kind(), x.point(), x.count()
	if e := x.end(); e != api.OK {
		return e
	}
	a := c.product.Assembly
	scene, e := blocking.Open(a)
	if e != api.OK {
		return e
	}
	sets, e := removable.Of(scene, all(a), d, blockingKind, most, -1)
	if e != api.OK {
		return e
	}
	for _, set := range sets {
		x.line()
		x.instances(a, set[:1], "")
		x.instances(a, set[1:], " ")
	}
	return api.OK
}

func (c *Console) makePlan(x *exchange) api.Errno {
	isSequential := x.Take("one")
	if !isSequential {
		x.Expect("two")
	}
	k := api.Kind{Blocking: x.kind()}
	for x.Is("(") {
		k.Directions = append(k.Directions, x.point())
	}
	if e := x.end(); e != api.OK {
		return e
	}
	p, e := c.planFor(k, isSequential)
	if e == api.ErrStuck {
		return c.tellStuck(x, k, isSequential)
	}
	if e != api.OK {
		return e
	}
	text, e := plan.Text(p, len(c.product.Assembly.Instances))
	if e != api.OK {
		return e
	}
	c.plan, c.hasPlan = p, true
	x.add(strings.TrimSuffix(text, "\n"))
	return api.OK
}

// planFor returns the plan of a kind.
func (c *Console) planFor(k api.Kind, isSequential bool) (api.Plan, api.Errno) {
	if isSequential {
		return planner.Sequential(c.product.Assembly, k, 1)
	}
	return planner.TwoHanded(c.product.Assembly, k)
}

// tellStuck answers what cannot be taken apart.
func (c *Console) tellStuck(x *exchange, k api.Kind, isSequential bool) api.Errno {
	a := c.product.Assembly
	var cores []api.Core
	var e api.Errno
	if isSequential {
		cores, e = impossible.Sequential(a, k, 1)
	} else {
		var core api.Core
		core, _, e = impossible.TwoHanded(a, k)
		cores = append(cores, core)
	}
	if e != api.OK {
		return e
	}
	c.plan, c.hasPlan = api.Plan{}, false
	x.add("stuck")
	for _, core := range cores {
		x.instances(a, core.Set, " ")
	}
	return api.OK
}

// situation returns the situation in which all instances are there.
func (c *Console) situation(gravity api.Point, held []int) stability.Situation {
	a := c.product.Assembly
	return stability.Situation{Assembly: a, There: all(a), Held: held, Gravity: gravity}
}

func (c *Console) follow(x *exchange) api.Errno {
	gravity, most, names := x.point(), x.count(), x.names()
	if e := x.end(); e != api.OK {
		return e
	}
	held, e := findSet(c.product.Assembly, names)
	if e != api.OK {
		return e
	}
	hands, at, e := stability.Follow(c.situation(gravity, held), c.plan, most)
	if e != api.OK {
		return e
	}
	for i, l := range hands {
		x.line()
		x.add(strconv.Itoa(i), ":")
		x.instances(c.product.Assembly, l, " ")
	}
	if at >= 0 {
		x.line()
		x.add(strconv.Itoa(at), " fails")
	}
	return api.OK
}

func (c *Console) stands(x *exchange) api.Errno {
	gravity, names := x.point(), x.names()
	if e := x.end(); e != api.OK {
		return e
	}
	held, e := findSet(c.product.Assembly, names)
	if e != api.OK {
		return e
	}
	stands, e := stability.Stands(c.situation(gravity, held))
	if e != api.OK {
		return e
	}
	if stands {
		x.add("stands")
	} else {
		x.add("falls")
	}
	return api.OK
}
