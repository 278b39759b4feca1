package checker

import (
	"dowel/api"
	"dowel/rational"
)

// slab is what an axis says about the times t at which a cell, translated by t d, meets another one: t times normal.d is between two numbers.
type slab struct {
	normal   vec
	from, to rational.Rat
}

// pair is two cells, with all slabs that decide when they meet.
type pair struct{ slabs []slab }

// pairOf returns the pair of two cells of different instances.
func (s *scene) pairOf(x, y Cell) (*pair, bool) {
	if p, ok := s.pairs[[2]Cell{x, y}]; ok {
		return p, true
	}
	a, b, ok := s.both(x, y)
	if !ok {
		return nil, false
	}
	p := &pair{}
	found := map[key]bool{}
	add := func(n vec) {
		if n.isZero() {
			return
		}
		if n.lead().Sign() < 0 {
			n = n.neg()
		}
		k := plane{normal: n}.key()
		if found[k] {
			return
		}
		found[k] = true
		lowA, highA := a.extent(n)
		lowB, highB := b.extent(n)
		p.slabs = append(p.slabs, slab{n, rational.Sub(lowB, highA), rational.Sub(highB, lowA)})
	}
	for _, c := range []*body{a, b} {
		for _, x := range c.planes {
			add(x.normal)
		}
	}
	for _, d := range a.edges {
		for _, e := range b.edges {
			add(d.cross(e))
		}
	}
	s.pairs[[2]Cell{x, y}] = p
	return p, true
}

// interval returns the ends of the meeting interval for a direction that is not 0; false if it is empty. If it is closed, its ends belong to it.
func (p *pair) interval(d vec, closed bool) (low, high rational.Rat, ok bool) {
	isBefore := func(a, b rational.Rat) bool {
		c := rational.Compare(a, b)
		return c < 0 || c == 0 && closed
	}
	isBounded := false
	for _, s := range p.slabs {
		speed := s.normal.dot(d)
		if speed.Sign() == 0 {
			if !isBefore(s.from, rational.Rat{}) || !isBefore(rational.Rat{}, s.to) {
				return rational.Rat{}, rational.Rat{}, false
			}
			continue
		}
		from, _ := rational.Div(s.from, speed)
		to, _ := rational.Div(s.to, speed)
		from, to = rational.Min(from, to), rational.Max(from, to)
		if isBounded {
			from, to = rational.Max(from, low), rational.Min(to, high)
		}
		low, high, isBounded = from, to, true
	}
	if !isBounded || !isBefore(low, high) {
		return rational.Rat{}, rational.Rat{}, false
	}
	return low, high, true
}

// isRight reports whether an arc is right for a direction that is not 0.
func (s *scene) isRight(arc api.Arc, d vec, blocking int) bool {
	p, ok := s.pairOf(Cell{arc.From, arc.CellFrom}, Cell{arc.To, arc.CellTo})
	if !ok {
		return false
	}
	low, high, ok := p.interval(d, false)
	if !ok {
		return false
	}
	var holds func() bool
	switch blocking {
	case api.Far:
		holds = func() bool {
			time, e := rational.Read(arc.Time)
			return e == api.OK && time.Sign() > 0 && rational.Compare(low, time) < 0 && rational.Compare(time, high) < 0
		}
	case api.Local:
		holds = func() bool { return arc.Time == "" && low.Sign() <= 0 && high.Sign() > 0 }
	default:
		return false
	}
	return holds()
}

// isBorderRight reports whether the closed meeting interval of an arc permits that it is right for directions near to one.
func (s *scene) isBorderRight(arc api.Arc, d vec, blocking int) bool {
	p, ok := s.pairOf(Cell{arc.From, arc.CellFrom}, Cell{arc.To, arc.CellTo})
	if !ok {
		return false
	}
	low, high, ok := p.interval(d, true)
	return ok && high.Sign() > 0 && (blocking == api.Far || low.Sign() <= 0)
}
