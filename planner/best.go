package planner

import "dowel/api"

// none is a number of moves or a height that is greater than any that can be.
const none = 1 << 20

// best finds the least number that belongs to a set: that of its first move, by which it is divided in two sets, is made of the numbers of both. Single instances have 0.
type best struct {
	*search
	most    int
	found   map[set]int
	combine func(moved, rest int) int
}

func (b *best) of(r set) int {
	if r.size() < 2 {
		return 0
	}
	if n, ok := b.found[r]; ok {
		return n
	}
	least := none
	for m := range b.moves(r, b.most) {
		least = min(least, b.after(r, m))
	}
	b.found[r] = least
	return least
}

// after returns the number of a set if it is divided by a move.
func (b *best) after(r set, m move) int {
	return min(none, 1+b.combine(b.of(m.moved), b.of(r&^m.moved)))
}

// Least returns the first one of the plans with the fewest moves.
func Least(a api.Assembly, kind api.Kind, most int) (api.Plan, api.Errno) {
	s, e := beginSmall(a, kind, most)
	if e != api.OK {
		return api.Plan{}, e
	}
	// What is moved goes as it is.
	b := &best{s, most, map[set]int{}, func(_, rest int) int { return rest }}
	p, r := planFor(kind, most), full(len(a.Instances))
	for r.size() > 1 {
		m, ok := s.first(r, most, func(m move) bool { return b.of(r) < none && b.after(r, m) == b.of(r) })
		if s.e != api.OK {
			return api.Plan{}, s.e
		}
		if !ok {
			return api.Plan{}, api.ErrStuck
		}
		p.Steps = append(p.Steps, stepOf(m))
		r &^= m.moved
	}
	return p, api.OK
}

// Flat returns the first one of the plans with splits of the least height.
func Flat(a api.Assembly, kind api.Kind) (api.Plan, api.Errno) {
	s, e := beginSmall(a, kind, 0)
	if e != api.OK {
		return api.Plan{}, e
	}
	b := &best{s, 0, map[set]int{}, func(moved, rest int) int { return max(moved, rest) }}
	all := full(len(a.Instances))
	p := planFor(kind, 0)
	if height := b.of(all); s.e == api.OK && height < none {
		b.within(all, height, &p)
		return p, api.OK
	}
	if s.e != api.OK {
		return api.Plan{}, s.e
	}
	return api.Plan{}, api.ErrStuck
}

// within adds the first splits of a set with at most some height to a plan.
func (b *best) within(r set, height int, p *api.Plan) {
	if r.size() < 2 {
		return
	}
	m, _ := b.first(r, 0, func(m move) bool { return b.after(r, m) <= height })
	p.Splits = append(p.Splits, api.Split{Whole: r.list(), Moved: m.moved.list(), Direction: m.direction})
	b.within(m.moved, height-1, p)
	b.within(r&^m.moved, height-1, p)
}

// Orders returns the number of orders in which single instances can be moved out.
func Orders(a api.Assembly, kind api.Kind) (int, api.Errno) {
	s, e := beginSmall(a, kind, 1)
	if e != api.OK {
		return 0, e
	}
	counts := map[set]int{}
	var count func(r set) int
	count = func(r set) int {
		if r.size() < 2 {
			return 1
		}
		if n, ok := counts[r]; ok {
			return n
		}
		sum, last := 0, set(0)
		for m := range s.moves(r, 1) {
			// An instance that can be moved in several directions counts once.
			if m.moved != last {
				sum += count(r &^ m.moved)
			}
			last = m.moved
		}
		counts[r] = sum
		return sum
	}
	n := count(full(len(a.Instances)))
	if s.e != api.OK {
		return 0, s.e
	}
	return n, api.OK
}
