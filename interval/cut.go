package interval

import (
	"slices"

	"dowel/api"
	"dowel/rational"
)

// The sides of a number on which the line can be cut, and the cuts at its ends.
const (
	first  = -2
	ahead  = -1
	behind = 1
	last   = 2
)

// place is where the line is cut: directly ahead of a number or directly behind it, or at one of its ends, without a number.
type place struct {
	number api.Number
	side   int
}

// cut is a place with the value of its number. An interval consists of the numbers between two cuts: so open and closed ends need not be told apart any more.
type cut struct {
	place
	value rational.Rat
}

// span is what lies between two cuts.
type span struct{ low, high cut }

func cutAt(n api.Number, value rational.Rat, side int) cut {
	return cut{place{n, side}, value}
}

func (c cut) isNumber() bool { return c.side == ahead || c.side == behind }

// moved returns the cut at k times the number, plus another one.
func (c cut) moved(k, plus rational.Rat) cut {
	if k.Sign() < 0 {
		c.side = -c.side
	}
	if c.isNumber() {
		c.value = rational.Add(rational.Mul(k, c.value), plus)
		c.number = c.value.Number()
	}
	return c
}

// compare returns -1, 0 or 1, as a lies ahead of b, is the same cut, or lies behind it.
func compare(a, b cut) int {
	if a.place == b.place {
		return 0
	}
	if a.isNumber() && b.isNumber() {
		if c := rational.Compare(a.value, b.value); c != 0 {
			return c
		}
	}
	if a.side < b.side {
		return -1
	}
	return 1
}

// spanOf returns the span of an interval; if this is empty, its high cut lies not behind the low one.
func spanOf(x api.Interval) (span, api.Errno) {
	if !isKind(x.LowEnd) || !isKind(x.HighEnd) {
		return span{}, api.ErrKind
	}
	low, e := cutOf(x.Low, x.LowEnd, -1)
	if e != api.OK {
		return span{}, e
	}
	high, e := cutOf(x.High, x.HighEnd, 1)
	if e != api.OK {
		return span{}, e
	}
	return span{low, high}, api.OK
}

func isKind(end int) bool {
	return end == api.Open || end == api.Closed || end == api.Infinite
}

// cutOf returns the cut at an end of an interval: the lower one for the side -1, the upper one for the side 1.
func cutOf(n api.Number, end, side int) (cut, api.Errno) {
	if end == api.Infinite {
		if n != "" {
			return cut{}, api.ErrForm
		}
		return cut{place: place{side: side * last}}, api.OK
	}
	value, e := rational.Read(n)
	if e != api.OK {
		return cut{}, e
	}
	if end == api.Open {
		side = -side
	}
	return cutAt(n, value, side), api.OK
}

// endOf returns the number and the kind of the end of an interval at a cut.
func endOf(c cut, closed int) (api.Number, int) {
	switch {
	case !c.isNumber():
		return "", api.Infinite
	case c.side == closed:
		return c.number, api.Closed
	}
	return c.number, api.Open
}

// intervals returns the intervals of spans.
func intervals(l []span) []api.Interval {
	s := make([]api.Interval, len(l))
	for i, p := range l {
		s[i].Low, s[i].LowEnd = endOf(p.low, ahead)
		s[i].High, s[i].HighEnd = endOf(p.high, behind)
	}
	return s
}

// join sorts spans by their low cuts, and makes one of those between which there is no number.
func join(l []span) []span {
	slices.SortFunc(l, func(a, b span) int { return compare(a.low, b.low) })
	var joined []span
	for _, p := range l {
		if n := len(joined); n > 0 && compare(p.low, joined[n-1].high) <= 0 {
			if compare(joined[n-1].high, p.high) < 0 {
				joined[n-1].high = p.high
			}
			continue
		}
		joined = append(joined, p)
	}
	return joined
}

// cuts returns all cuts of the spans of a set, in order.
func cuts(l []span) []cut {
	c := make([]cut, 0, 2*len(l))
	for _, p := range l {
		c = append(c, p.low, p.high)
	}
	return c
}

// combine divides the line by the cuts of two sets, and returns the parts that a function chooses by whether they belong to the one and to the other set.
func combine(a, b []span, belongs func(inA, inB bool) bool) []span {
	all := append(cuts(a), cuts(b)...)
	all = append(all, cut{place: place{side: first}}, cut{place: place{side: last}})
	slices.SortFunc(all, compare)
	all = slices.CompactFunc(all, func(x, y cut) bool { return x.place == y.place })
	var parts []span
	for i := range len(all) - 1 {
		part := span{all[i], all[i+1]}
		a, b = dropAhead(a, part.low), dropAhead(b, part.low)
		if belongs(covers(a, part), covers(b, part)) {
			parts = append(parts, part)
		}
	}
	return join(parts)
}

// dropAhead leaves out the spans of a set that end ahead of a cut, or at it.
func dropAhead(l []span, c cut) []span {
	for len(l) > 0 && compare(l[0].high, c) <= 0 {
		l = l[1:]
	}
	return l
}

// covers reports whether the first span of a set begins at a part of the line, or ahead of it; no set has a cut within the part.
func covers(l []span, part span) bool {
	return len(l) > 0 && compare(l[0].low, part.low) <= 0
}
