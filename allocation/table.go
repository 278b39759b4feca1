package allocation

import (
	"slices"

	"dowel/api"
	"dowel/rational"
)

// The sides on which a requirement fails.
const (
	above = 1
	below = -1
)

// span is the least and the greatest value of something.
type span struct{ least, greatest rational.Rat }

func (s span) plus(other span) span {
	return span{rational.Add(s.least, other.least), rational.Add(s.greatest, other.greatest)}
}

// limit is a bound of a requirement, if it is there.
type limit struct {
	is    bool
	value rational.Rat
}

func newLimit(n api.Number) limit {
	value, _ := rational.Read(n)
	return limit{n != "", value}
}

// rule is a requirement with numbers.
type rule struct {
	constant  rational.Rat
	parts     [][]span // what the options of each dimension add to the value
	rest      []span   // what the dimensions from an index on add at best: the greatest of the least values, and the least of the greatest ones
	low, high limit
}

// table is a valid offer with numbers.
type table struct {
	options [][]api.Option
	rest    []int // the least cost of the dimensions from an index on
	rules   []rule
}

// vertex is a vertex of the tree of prefixes.
type vertex struct {
	options []int
	cost    int
	values  []span // of the requirements, as far as the prefix says
}

func newTable(o api.Offer) *table {
	n := len(o.Dimensions)
	t := &table{options: o.Options, rest: make([]int, n+1)}
	for i := n - 1; i >= 0; i-- {
		cheapest := slices.MinFunc(o.Options[i], func(x, y api.Option) int { return x.Cost - y.Cost })
		t.rest[i] = t.rest[i+1] + cheapest.Cost
	}
	for _, r := range o.Requirements {
		t.rules = append(t.rules, newRule(o, r))
	}
	return t
}

func newRule(o api.Offer, q api.Requirement) rule {
	n := len(o.Dimensions)
	r := rule{parts: make([][]span, n), rest: make([]span, n+1), low: newLimit(q.Low), high: newLimit(q.High)}
	r.constant, _ = rational.Read(q.Gap.Form.Constant)
	factors := make([]rational.Rat, n)
	for _, t := range q.Gap.Form.Terms {
		factors[t.Dimension], _ = rational.Read(t.Factor)
	}
	for i := n - 1; i >= 0; i-- {
		best := span{}
		for k, x := range o.Options[i] {
			s := multiples(factors[i], o.Dimensions[i].Nominal+x.Lower, o.Dimensions[i].Nominal+x.Upper)
			r.parts[i] = append(r.parts[i], s)
			if k == 0 {
				best = s
			}
			best = span{rational.Max(best.least, s.least), rational.Min(best.greatest, s.greatest)}
		}
		r.rest[i] = r.rest[i+1].plus(best)
	}
	return r
}

// multiples returns the least and the greatest multiple of a factor by numbers within two ones.
func multiples(factor rational.Rat, low, high int) span {
	a, b := rational.Mul(factor, rational.From(low)), rational.Mul(factor, rational.From(high))
	return span{rational.Min(a, b), rational.Max(a, b)}
}

// root returns the vertex with the empty prefix.
func (t *table) root() vertex {
	v := vertex{}
	for _, r := range t.rules {
		v.values = append(v.values, span{r.constant, r.constant})
	}
	return v
}

// extended returns the vertex with a further option.
func (t *table) extended(v vertex, option int) vertex {
	at := len(v.options)
	w := vertex{append(slices.Clone(v.options), option), v.cost + t.options[at][option].Cost, make([]span, len(v.values))}
	for i, r := range t.rules {
		w.values[i] = v.values[i].plus(r.parts[at][option])
	}
	return w
}

// at returns the vertex with a prefix.
func (t *table) at(prefix []int) vertex {
	v := t.root()
	for _, option := range prefix {
		v = t.extended(v, option)
	}
	return v
}

// isWhole reports whether a vertex has an option for each dimension.
func (t *table) isWhole(v vertex) bool { return len(v.options) == len(t.options) }

// bound returns the bound of a prefix.
func (t *table) bound(v vertex) int { return v.cost + t.rest[len(v.options)] }

// fails returns the first requirement that fails behind a prefix, with the side.
func (t *table) fails(v vertex) (requirement, side int, is bool) {
	for i := range t.rules {
		for _, side := range []int{above, below} {
			if t.failsOn(v, i, side) {
				return i, side, true
			}
		}
	}
	return 0, 0, false
}

// failsOn reports whether a requirement fails behind a prefix on a side.
func (t *table) failsOn(v vertex, requirement, side int) bool {
	r := t.rules[requirement]
	reached := v.values[requirement].plus(r.rest[len(v.options)])
	value, bound := reached.greatest, r.high
	if side == below {
		value, bound = reached.least, r.low
	}
	return bound.is && rational.Compare(value, bound.value) == side
}
