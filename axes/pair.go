package axes

import (
	"dowel/api"
	"dowel/rational"
	"dowel/vector"
)

// limit is what one axis demands of a translation, if the shapes shall meet: its product with the normal lies between both numbers.
type limit struct {
	normal    vector.Vec
	low, high rational.Rat
}

// Pair is two shapes, of which the first one is translated.
type Pair struct{ limits []limit }

// PairOf returns the pair of two shapes.
func PairOf(a, b Body) Pair {
	var p Pair
	for l := range Lines(a, b) {
		p.limits = append(p.limits, limit{l.Normal, rational.Sub(l.LowB, l.HighA), rational.Sub(l.HighB, l.LowA)})
	}
	return p
}

// Reversed returns the pair of the same shapes in the other order.
func (p Pair) Reversed() Pair {
	q := Pair{make([]limit, len(p.limits))}
	for i, l := range p.limits {
		q.limits[i] = limit{l.normal, rational.Neg(l.high), rational.Neg(l.low)}
	}
	return q
}

// Shifted returns the pair whose first shape has been translated.
func (p Pair) Shifted(v vector.Vec) Pair {
	q := Pair{make([]limit, len(p.limits))}
	for i, l := range p.limits {
		way := vector.Dot(l.normal, v)
		q.limits[i] = limit{l.normal, rational.Sub(l.low, way), rational.Sub(l.high, way)}
	}
	return q
}

// Status returns how the two shapes lie.
func (p Pair) Status() int {
	status := api.Meeting
	for _, l := range p.limits {
		if l.low.Sign() > 0 || l.high.Sign() < 0 {
			return api.Apart
		}
		if l.low.Sign() == 0 || l.high.Sign() == 0 {
			status = api.Touching
		}
	}
	return status
}

// Open returns the ends of the open interval of all times at which the first shape, translated by so many times d, meets the second one; false if there are none. d must not be 0.
func (p Pair) Open(d vector.Vec) (low, high rational.Rat, meets bool) {
	return p.interval(d, func(l limit) bool { return l.low.Sign() < 0 && l.high.Sign() > 0 }, 0)
}

// Closed returns the ends of the closed interval of all times at which both have a common point; false if there are none.
func (p Pair) Closed(d vector.Vec) (low, high rational.Rat, touches bool) {
	return p.interval(d, func(l limit) bool { return l.low.Sign() <= 0 && l.high.Sign() >= 0 }, 1)
}

// bound is an end of an interval that becomes tighter with each axis.
type bound struct {
	value rational.Rat
	isSet bool
}

// tighten makes a bound what a choice makes of it and of another one.
func (b *bound) tighten(x rational.Rat, choose func(a, b rational.Rat) rational.Rat) {
	if b.isSet {
		x = choose(b.value, x)
	}
	b.value, b.isSet = x, true
}

// interval returns the interval of the times that all axes permit. A function tells whether an axis that is perpendicular to d permits any time; the low end must compare with the high one as less than most.
func (p Pair) interval(d vector.Vec, permits func(limit) bool, most int) (from, to rational.Rat, ok bool) {
	var low, high bound
	for _, l := range p.limits {
		speed := vector.Dot(l.normal, d)
		if speed.Sign() == 0 {
			if !permits(l) {
				return rational.Rat{}, rational.Rat{}, false
			}
			continue
		}
		enters, leaves := times(l, speed)
		low.tighten(enters, rational.Max)
		high.tighten(leaves, rational.Min)
		if rational.Compare(low.value, high.value) >= most {
			return rational.Rat{}, rational.Rat{}, false
		}
	}
	return low.value, high.value, low.isSet
}

// times returns the times at which a translation with a speed enters and leaves the bounds of an axis.
func times(l limit, speed rational.Rat) (from, to rational.Rat) {
	if n, ok := speed.Int(); ok && n == 1 {
		return l.low, l.high
	}
	from, _ = rational.Div(l.low, speed)
	to, _ = rational.Div(l.high, speed)
	if speed.Sign() < 0 {
		from, to = to, from
	}
	return from, to
}

// Normals returns the normals along which the two shapes touch: the first one ends where the second one begins.
func (p Pair) Normals() []vector.Vec {
	var l []vector.Vec
	for _, x := range p.limits {
		if x.low.Sign() == 0 {
			l = append(l, x.normal)
		}
		if x.high.Sign() == 0 {
			l = append(l, vector.Neg(x.normal))
		}
	}
	return l
}
