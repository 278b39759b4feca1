package allocation

import (
	"slices"

	"dowel/api"
)

// Allocate returns the cheapest choice that meets all requirements, with its proof.
func Allocate(o api.Offer) (api.Allocation, api.Errno) {
	if e := Check(o); e != api.OK {
		return api.Allocation{}, e
	}
	t := newTable(o)
	p := prover{table: t}
	if best, found := t.cheapest(); found {
		p.allocation = api.Allocation{Possible: true, Choice: best.options, Cost: best.cost}
	}
	a := p.allocation
	a.Proof = t.leaves(t.root(), p.leaf)
	return a, api.OK
}

// cheapest returns the cheapest choice that meets all requirements.
func (t *table) cheapest() (best vertex, found bool) {
	var search func(v vertex)
	search = func(v vertex) {
		if found && t.bound(v) >= best.cost {
			return
		}
		if _, _, fails := t.fails(v); fails {
			return
		}
		if t.isWhole(v) {
			best, found = v, true
			return
		}
		for option := range t.options[len(v.options)] {
			search(t.extended(v, option))
		}
	}
	search(t.root())
	return best, found
}

// leaves returns the leaves of the tree behind a vertex, where a function says at which ones it ends.
func (t *table) leaves(v vertex, leaf func(vertex) (api.Bound, bool)) []api.Bound {
	if b, ok := leaf(v); ok {
		return []api.Bound{b}
	}
	var l []api.Bound
	for option := range t.options[len(v.options)] {
		l = append(l, t.leaves(t.extended(v, option), leaf)...)
	}
	return l
}

// prover proves that no choice is cheaper than an allocation.
type prover struct {
	table      *table
	allocation api.Allocation
}

// leaf returns the leaf of a vertex behind which no choice is better. There is one at least where the prefix is a whole choice.
func (p prover) leaf(v vertex) (api.Bound, bool) {
	b := api.Bound{Fixed: picks(v)}
	requirement, side, fails := p.table.fails(v)
	switch least := p.table.bound(v); {
	case p.allocation.Possible && least >= p.allocation.Cost:
		b.Requirement, b.Least = -1, least
	case fails:
		b.Requirement, b.Duals = requirement, []api.Number{dual(side)}
	default:
		return api.Bound{}, false
	}
	return b, true
}

func dual(side int) api.Number {
	if side == above {
		return "1"
	}
	return "-1"
}

// picks returns the prefix of a vertex as plain data.
func picks(v vertex) []api.Pick {
	l := make([]api.Pick, len(v.options))
	for i, option := range v.options {
		l[i] = api.Pick{Dimension: i, Option: option}
	}
	return l
}

// Verify returns OK for an allocation with its proof.
func Verify(o api.Offer, a api.Allocation) api.Errno {
	if e := Check(o); e != api.OK {
		return e
	}
	t := newTable(o)
	if e := t.checkAnswer(o, a); e != api.OK {
		return e
	}
	r := &reader{prover{t, a}, a.Proof}
	if !r.reads(t.root()) || len(r.left) > 0 {
		return api.ErrCertificate
	}
	return api.OK
}

// checkAnswer returns the error of an allocation without its proof.
func (t *table) checkAnswer(o api.Offer, a api.Allocation) api.Errno {
	if !a.Possible {
		if len(a.Choice) > 0 || a.Cost != 0 {
			return api.ErrForm
		}
		return api.OK
	}
	if e := checkChoice(o, a.Choice); e != api.OK {
		return e
	}
	v := t.at(a.Choice)
	if a.Cost != v.cost {
		return api.ErrConflict
	}
	if _, _, fails := t.fails(v); fails {
		return api.ErrTooWide
	}
	return api.OK
}

// reader reads the leaves of a proof.
type reader struct {
	prover
	left []api.Bound
}

// reads reports whether the next leaves are those of the tree behind a vertex, and takes them away.
func (r *reader) reads(v vertex) bool {
	if len(r.left) == 0 {
		return false
	}
	next := r.left[0]
	if len(next.Fixed) <= len(v.options) {
		r.left = r.left[1:]
		return slices.Equal(next.Fixed, picks(v)) && r.proves(v, next)
	}
	if r.table.isWhole(v) {
		return false
	}
	for option := range r.table.options[len(v.options)] {
		if !r.reads(r.table.extended(v, option)) {
			return false
		}
	}
	return true
}

// proves reports whether a leaf proves that no choice behind a vertex is better.
func (r *reader) proves(v vertex, b api.Bound) bool {
	if b.Requirement == -1 {
		return len(b.Duals) == 0 && b.Least == r.table.bound(v) && r.allocation.Possible && b.Least >= r.allocation.Cost
	}
	if b.Requirement < 0 || b.Requirement >= len(r.table.rules) || len(b.Duals) != 1 || b.Least != 0 {
		return false
	}
	switch b.Duals[0] {
	case dual(above):
		return r.table.failsOn(v, b.Requirement, above)
	case dual(below):
		return r.table.failsOn(v, b.Requirement, below)
	}
	return false
}
