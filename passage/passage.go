// Package passage prepares two solids for questions about translations of the first one past the second one: what the layers of motion share.
package passage

import (
	"iter"

	"dowel/api"
	"dowel/axes"
	"dowel/rational"
	"dowel/solid"
	"dowel/vector"
)

// Solids are two solids, as the pairs of a cell of the first one and one of the second one.
type Solids struct{ cells [][]axes.Pair }

// Bodies prepares the cells of a solid.
func Bodies(s solid.Solid) []axes.Body {
	l := make([]axes.Body, len(s.Cells))
	for i, c := range s.Cells {
		l[i] = axes.Of(c)
	}
	return l
}

// Of prepares two solids.
func Of(a, b solid.Solid) Solids { return Between(Bodies(a), Bodies(b)) }

// Between returns two solids whose cells have been prepared.
func Between(a, b []axes.Body) Solids {
	s := Solids{make([][]axes.Pair, len(a))}
	for i, x := range a {
		for _, y := range b {
			s.cells[i] = append(s.cells[i], axes.PairOf(x, y))
		}
	}
	return s
}

// Reversed returns the same solids in the other order.
func (s Solids) Reversed() Solids {
	var back Solids
	for i, row := range s.cells {
		for k, p := range row {
			if i == 0 {
				back.cells = append(back.cells, make([]axes.Pair, len(s.cells)))
			}
			back.cells[k][i] = p.Reversed()
		}
	}
	return back
}

// At returns the pair of two cells; false if one of them does not exist.
func (s Solids) At(from, to int) (axes.Pair, bool) {
	if from < 0 || from >= len(s.cells) || to < 0 || to >= len(s.cells[from]) {
		return axes.Pair{}, false
	}
	return s.cells[from][to], true
}

// Meeting is the open interval of the times at which a cell of the first solid meets one of the second one.
type Meeting struct {
	CellFrom, CellTo int
	Low, High        rational.Rat
}

// Meetings yields the meetings of all pairs of cells that have one, for a direction that is not 0.
func (s Solids) Meetings(d vector.Vec) iter.Seq[Meeting] {
	return func(yield func(Meeting) bool) {
		for i, row := range s.cells {
			for k, p := range row {
				low, high, meets := p.Open(d)
				if meets && !yield(Meeting{i, k, low, high}) {
					return
				}
			}
		}
	}
}

// IsFar reports whether a meeting blocks on the way to infinity.
func (m Meeting) IsFar() bool { return m.High.Sign() > 0 }

// IsLocal reports whether a meeting blocks at once.
func (m Meeting) IsLocal() bool { return m.Low.Sign() <= 0 && m.High.Sign() > 0 }

// IsAt reports whether a time belongs to a meeting.
func (m Meeting) IsAt(t rational.Rat) bool {
	return rational.Compare(m.Low, t) < 0 && rational.Compare(t, m.High) < 0
}

// First returns the first meeting that a test accepts.
func (s Solids) First(d vector.Vec, accepts func(Meeting) bool) (Meeting, bool) {
	for m := range s.Meetings(d) {
		if accepts(m) {
			return m, true
		}
	}
	return Meeting{}, false
}

// Witness returns the arc of the first meeting that blocks in a way, Far or Local.
func (s Solids) Witness(d vector.Vec, blocking int) (api.Arc, bool) {
	if blocking == api.Local {
		m, ok := s.First(d, Meeting.IsLocal)
		return api.Arc{CellFrom: m.CellFrom, CellTo: m.CellTo}, ok
	}
	m, ok := s.First(d, Meeting.IsFar)
	if !ok {
		return api.Arc{}, false
	}
	low := rational.Max(m.Low, rational.Rat{})
	time, _ := rational.Div(rational.Add(low, m.High), rational.From(2))
	return api.Arc{CellFrom: m.CellFrom, CellTo: m.CellTo, Time: time.Number()}, true
}
