package inspection

import (
	"cmp"
	"slices"

	"dowel/api"
	"dowel/copies"
	"dowel/rational"
	"dowel/sensitivity"
	"dowel/stackup"
)

// Check returns OK for a valid problem with valid measurements.
func Check(p stackup.Problem, l []Measurement) api.Errno {
	if e := stackup.Check(p); e != api.OK {
		return e
	}
	isLength := func(n int) bool { return n >= -api.MaxLength && n <= api.MaxLength }
	for i, m := range l {
		switch {
		case m.Dimension < 0 || m.Dimension >= len(p.Dimensions):
			return api.ErrNotFound
		case i > 0 && m.Dimension <= l[i-1].Dimension:
			return api.ErrOrder
		case !isLength(m.Low) || !isLength(m.High):
			return api.ErrRange
		case m.Low > m.High:
			return api.ErrEmpty
		}
	}
	return api.OK
}

// byDimension returns measurements by their dimensions.
func byDimension(l []Measurement) map[int]Measurement {
	found := map[int]Measurement{}
	for _, m := range l {
		found[m.Dimension] = m
	}
	return found
}

// Narrow returns the measured problem.
func Narrow(p stackup.Problem, l []Measurement) (stackup.Problem, api.Errno) {
	if e := Check(p, l); e != api.OK {
		return stackup.Problem{}, e
	}
	measured := stackup.Problem{Dimensions: slices.Clone(p.Dimensions)}
	for _, c := range p.Constraints {
		measured.Constraints = append(measured.Constraints, copies.Constraint(c))
	}
	for _, m := range l {
		if m.High-m.Low > api.MaxLength {
			return stackup.Problem{}, api.ErrRange
		}
		d := &measured.Dimensions[m.Dimension]
		d.Nominal, d.Lower, d.Upper = m.Low, 0, m.High-m.Low
	}
	return measured, api.OK
}

// Merge returns the measurements of two lists.
func Merge(p stackup.Problem, l, m []Measurement) ([]Measurement, api.Errno) {
	for _, list := range [][]Measurement{l, m} {
		if e := Check(p, list); e != api.OK {
			return nil, e
		}
	}
	found := byDimension(m)
	var merged []Measurement
	for _, x := range l {
		if y, ok := found[x.Dimension]; ok && y != x {
			x.Low, x.High = max(x.Low, y.Low), min(x.High, y.High)
		}
		if x.Low > x.High {
			return nil, api.ErrConflict
		}
		delete(found, x.Dimension)
		merged = append(merged, x)
	}
	for _, x := range found {
		merged = append(merged, x)
	}
	slices.SortFunc(merged, func(x, y Measurement) int { return cmp.Compare(x.Dimension, y.Dimension) })
	return merged, api.OK
}

// Influence returns how much each dimension still matters to a form.
func Influence(p stackup.Problem, l []Measurement, f api.Form) ([]api.Number, api.Errno) {
	measured, e := Narrow(p, l)
	if e != api.OK {
		return nil, e
	}
	return sensitivity.Contributions(measured, f)
}

// Next returns the dimension that should be measured next: the one that matters most to the open requirements.
func Next(p stackup.Problem, l []Measurement, requirements []api.Requirement) (dimension int, found bool, e api.Errno) {
	known, e := statuses(p, l, requirements)
	if e != api.OK {
		return 0, false, e
	}
	sums := make([]rational.Rat, len(p.Dimensions))
	for i, r := range requirements {
		if known[i] != Open {
			continue
		}
		influences, _ := Influence(p, l, r.Gap.Form)
		for k, n := range influences {
			sums[k] = rational.Add(sums[k], read(n))
		}
	}
	// What was measured is not measured again.
	for _, m := range l {
		sums[m.Dimension] = rational.Rat{}
	}
	dimension, found = first(sums, func(a, b rational.Rat) bool { return rational.Compare(a, b) > 0 })
	return dimension, found, api.OK
}

// first returns the index of the first number that is before 0, and before which no other one is; false if there is none.
func first(l []rational.Rat, isBefore func(a, b rational.Rat) bool) (at int, found bool) {
	var best rational.Rat
	for i, a := range l {
		if isBefore(a, best) {
			at, found, best = i, true, a
		}
	}
	return at, found
}
