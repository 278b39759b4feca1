package simulator

import (
	"cmp"
	"slices"

	"dowel/api"
	"dowel/assembly"
	"dowel/axes"
	"dowel/passage"
	"dowel/plan"
	"dowel/rational"
	"dowel/vector"
)

// course follows a motion of the instances of an assembly.
type course struct {
	bodies    [][]axes.Body
	motion    Motion
	shifts    []vector.Vec
	direction vector.Vec
	distance  rational.Rat // 0: to infinity
}

// prepare returns a course without a motion.
func prepare(a api.Assembly) (*course, api.Errno) {
	solids, e := assembly.Place(a)
	if e != api.OK {
		return nil, e
	}
	c := &course{}
	for _, s := range solids {
		c.bodies = append(c.bodies, passage.Bodies(s))
	}
	return c, api.OK
}

// open returns the course of a motion, or the first errors of the functions with a motion.
func open(a api.Assembly, m Motion) (*course, api.Errno) {
	c, e := prepare(a)
	if e != api.OK {
		return nil, e
	}
	if e := c.begin(m); e != api.OK {
		return nil, e
	}
	return c, api.OK
}

// begin takes up a motion, or returns its error.
func (c *course) begin(m Motion) api.Errno {
	n := len(c.bodies)
	if e := plan.CheckSet(m.Moved, n); e != api.OK {
		return e
	}
	if len(m.Still) > 0 {
		if e := plan.CheckSet(m.Still, n); e != api.OK {
			return e
		}
	}
	if slices.ContainsFunc(m.Still, func(i int) bool { return slices.Contains(m.Moved, i) }) {
		return api.ErrConflict
	}
	if len(m.Shifts) != n {
		return api.ErrSize
	}
	c.motion, c.shifts = m, make([]vector.Vec, n)
	for i, p := range m.Shifts {
		if !slices.Contains(m.Moved, i) && !slices.Contains(m.Still, i) {
			continue
		}
		v, e := vector.Read(p)
		if e != api.OK {
			return e
		}
		c.shifts[i] = v
	}
	if e := plan.CheckDirection(m.Direction); e != api.OK {
		return e
	}
	c.direction, _ = vector.Read(m.Direction)
	return c.readDistance(m.Distance)
}

func (c *course) readDistance(n api.Number) api.Errno {
	c.distance = rational.Rat{}
	if n == "" {
		return api.OK
	}
	distance, e := rational.Read(n)
	if e != api.OK {
		return e
	}
	if distance.Sign() <= 0 {
		return api.ErrRange
	}
	c.distance = distance
	return api.OK
}

// line is an axis of two cells: from the first number on, and up to the second one, their extents overlap, when the first cell has been moved so far along the axis. It moves with a speed.
type line struct{ speed, low, high rational.Rat }

// at returns how the extents lie at a time.
func (l line) at(t rational.Rat) int {
	way := rational.Mul(l.speed, t)
	behind, ahead := rational.Compare(way, l.low), rational.Compare(l.high, way)
	switch {
	case behind < 0 || ahead < 0:
		return api.Apart
	case behind == 0 || ahead == 0:
		return api.Touching
	}
	return api.Meeting
}

// encounter is a moved instance and a still one, as the axes of each two of their cells.
type encounter [][]line

func (c *course) encounter(x, y int) encounter {
	shift := vector.Sub(c.shifts[x], c.shifts[y])
	var l encounter
	for _, a := range c.bodies[x] {
		for _, b := range c.bodies[y] {
			var lines []line
			for n := range axes.Lines(a, b) {
				way := vector.Dot(n.Normal, shift)
				lines = append(lines, line{
					vector.Dot(n.Normal, c.direction),
					rational.Sub(rational.Sub(n.LowB, n.HighA), way),
					rational.Sub(rational.Sub(n.HighB, n.LowA), way),
				})
			}
			l = append(l, lines)
		}
	}
	return l
}

// at returns how both instances lie at a time.
func (x encounter) at(t rational.Rat) int {
	status := api.Apart
	for _, lines := range x {
		cells := api.Meeting
		for _, l := range lines {
			cells = min(cells, l.at(t))
		}
		status = max(status, cells)
	}
	return status
}

// times returns, in increasing order, 0 and all times behind it at which something can change; the last one is the distance, if this is bounded.
func (x encounter) times(distance rational.Rat) []rational.Rat {
	times := []rational.Rat{{}}
	if distance.Sign() > 0 {
		times = append(times, distance)
	}
	for _, lines := range x {
		for _, l := range lines {
			for _, end := range []rational.Rat{l.low, l.high} {
				t, e := rational.Div(end, l.speed)
				if e == api.OK && t.Sign() > 0 && (distance.Sign() == 0 || rational.Compare(t, distance) < 0) {
					times = append(times, t)
				}
			}
		}
	}
	slices.SortFunc(times, rational.Compare)
	return slices.CompactFunc(times, func(a, b rational.Rat) bool { return rational.Compare(a, b) == 0 })
}

// events returns all events of the motion, in order.
func (c *course) events() []Event {
	type timed struct {
		Event
		time rational.Rat
	}
	var l []timed
	for _, a := range c.motion.Moved {
		for _, b := range c.motion.Still {
			x := c.encounter(a, b)
			times := x.times(c.distance)
			before := api.Apart
			for i, t := range times {
				isLast := i == len(times)-1
				after := x.at(behind(times, i))
				if isLast && c.distance.Sign() > 0 {
					after = 0
				}
				for _, kind := range kinds(before, x.at(t), after, i == 0) {
					l = append(l, timed{Event{0, kind, a, b, t.Number()}, t})
				}
				before = after
			}
		}
	}
	slices.SortFunc(l, func(x, y timed) int {
		return cmp.Or(rational.Compare(x.time, y.time), cmp.Compare(x.A, y.A), cmp.Compare(x.B, y.B), cmp.Compare(x.Kind, y.Kind))
	})
	events := make([]Event, len(l))
	for i, x := range l {
		events[i] = x.Event
	}
	return events
}

// behind returns a time between one of some times and the next one, or behind the last one.
func behind(times []rational.Rat, i int) rational.Rat {
	if i == len(times)-1 {
		return rational.Add(times[i], rational.From(1))
	}
	middle, _ := rational.Div(rational.Add(times[i], times[i+1]), rational.From(2))
	return middle
}

// kinds returns the kinds of events at a time, by how both instances lie before it, at it, and behind it (0: the motion ends there).
func kinds(before, now, after int, isFirst bool) []int {
	var l []int
	if now != api.Apart && (isFirst || before == api.Apart) {
		l = append(l, Meets)
	}
	if now != api.Apart && after == api.Apart {
		l = append(l, Parts)
	}
	if now != api.Meeting && after == api.Meeting || isFirst && now == api.Meeting {
		l = append(l, Enters)
	}
	if now != api.Meeting && !isFirst && before == api.Meeting {
		l = append(l, Leaves)
	}
	return l
}
