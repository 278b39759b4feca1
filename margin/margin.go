// Package margin checks the bounds of requirements, and finds how far worst cases are from them. It serves the layers that judge requirements.
package margin

import (
	"dowel/api"
	"dowel/rational"
)

// Check returns the error of the bounds of a requirement, of which each can be empty.
func Check(low, high api.Number) api.Errno {
	var bounds []rational.Rat
	for _, n := range []api.Number{low, high} {
		if n == "" {
			continue
		}
		bound, e := rational.Parse(n)
		if e != api.OK {
			return e
		}
		bounds = append(bounds, bound)
	}
	if len(bounds) == 2 && rational.Compare(bounds[0], bounds[1]) > 0 {
		return api.ErrOrder
	}
	return api.OK
}

// Of returns how far the least and the greatest value lie within the bounds of a requirement (empty without a bound), and whether it is met.
func Of(low, high, least, greatest api.Number) (below, above api.Number, met bool) {
	met = true
	room := func(from, to api.Number) api.Number {
		if from == "" || to == "" {
			return ""
		}
		// A worst case can have more digits than what people give.
		a, _ := rational.Read(from)
		b, _ := rational.Read(to)
		room := rational.Sub(b, a)
		met = met && room.Sign() >= 0
		return room.Number()
	}
	below, above = room(low, least), room(greatest, high)
	return below, above, met
}
