package checker

import (
	"slices"

	"dowel/api"
	"dowel/rational"
)

// offer is an offer, of whose numbers all that is asked for are read.
type offer struct{ api.Offer }

// isWhole reports whether there is a list of options for each dimension, and none is empty.
func (o offer) isWhole() bool {
	return len(o.Options) == len(o.Dimensions) && !slices.ContainsFunc(o.Options, func(l []api.Option) bool { return len(l) == 0 })
}

// bound returns the cost of the first options of a choice, and of the cheapest ones behind them.
func (o offer) bound(prefix []int) int {
	sum := 0
	for i, l := range o.Options {
		if i < len(prefix) {
			sum += l[prefix[i]].Cost
			continue
		}
		sum += slices.MinFunc(l, func(x, y api.Option) int { return x.Cost - y.Cost }).Cost
	}
	return sum
}

// least returns the least number among all choices with a prefix that the greatest value of a form times a sign can have; dimension by dimension.
func (o offer) least(f form, prefix []int) rational.Rat {
	sum := f.constant
	for i, l := range o.Options {
		if i < len(prefix) {
			l = l[prefix[i] : prefix[i]+1]
		}
		var best rational.Rat
		for k, x := range l {
			nominal := o.Dimensions[i].Nominal
			low, high := rational.From(nominal+x.Lower), rational.From(nominal+x.Upper)
			most := rational.Max(rational.Mul(f.factors[i], low), rational.Mul(f.factors[i], high))
			if k == 0 || rational.Compare(most, best) < 0 {
				best = most
			}
		}
		sum = rational.Add(sum, best)
	}
	return sum
}

// fails reports whether a requirement fails behind a prefix: above if the sign is 1, below if it is -1.
func (o offer) fails(r api.Requirement, prefix []int, sign int) bool {
	bound := r.High
	if sign < 0 {
		bound = r.Low
	}
	limit, e := rational.Read(bound)
	f, ok := readForm(len(o.Dimensions), r.Gap.Form)
	if e != api.OK || !ok {
		return false
	}
	k := rational.From(sign)
	return rational.Compare(o.least(f.times(k), prefix), rational.Mul(limit, k)) > 0
}

// isChoice reports whether a choice has an option for each dimension.
func (o offer) isChoice(choice []int) bool {
	if len(choice) != len(o.Options) {
		return false
	}
	for i, x := range choice {
		if x < 0 || x >= len(o.Options[i]) {
			return false
		}
	}
	return true
}

// meets reports whether a choice meets all requirements.
func (o offer) meets(choice []int) bool {
	return !slices.ContainsFunc(o.Requirements, func(r api.Requirement) bool {
		return o.fails(r, choice, 1) || o.fails(r, choice, -1)
	})
}

// provesAllocation reports whether an allocation is proved.
func provesAllocation(a api.Offer, x api.Allocation) bool {
	o := offer{a}
	if !o.isWhole() {
		return false
	}
	if x.Possible && (!o.isChoice(x.Choice) || x.Cost != o.bound(x.Choice) || !o.meets(x.Choice)) {
		return false
	}
	if !x.Possible && (len(x.Choice) > 0 || x.Cost != 0) {
		return false
	}
	left, ok := o.takeLeaves(x, x.Proof, nil)
	return ok && len(left) == 0
}

// takeLeaves returns what is left of leaves behind those of the tree with a prefix, if these are right.
func (o offer) takeLeaves(x api.Allocation, leaves []api.Bound, prefix []int) (left []api.Bound, ok bool) {
	if len(leaves) == 0 {
		return nil, false
	}
	if len(leaves[0].Fixed) <= len(prefix) {
		return leaves[1:], isFixed(leaves[0].Fixed, prefix) && o.isLeaf(x, leaves[0], prefix)
	}
	if len(prefix) == len(o.Options) {
		return nil, false
	}
	left = leaves
	for option := range o.Options[len(prefix)] {
		left, ok = o.takeLeaves(x, left, append(slices.Clone(prefix), option))
		if !ok {
			return nil, false
		}
	}
	return left, true
}

// isFixed reports whether picks are a prefix.
func isFixed(l []api.Pick, prefix []int) bool {
	if len(l) != len(prefix) {
		return false
	}
	for i, x := range l {
		if x != (api.Pick{Dimension: i, Option: prefix[i]}) {
			return false
		}
	}
	return true
}

// isLeaf reports whether no choice behind a prefix is better than an allocation, as a leaf says.
func (o offer) isLeaf(x api.Allocation, b api.Bound, prefix []int) bool {
	if b.Requirement == -1 {
		return len(b.Duals) == 0 && x.Possible && b.Least == o.bound(prefix) && b.Least >= x.Cost
	}
	if b.Requirement < 0 || b.Requirement >= len(o.Requirements) || b.Least != 0 || len(b.Duals) != 1 {
		return false
	}
	switch r := o.Requirements[b.Requirement]; b.Duals[0] {
	case "1":
		return o.fails(r, prefix, 1)
	case "-1":
		return o.fails(r, prefix, -1)
	}
	return false
}
