package passage

import (
	"testing"

	"dowel/api"
	"dowel/rational"
	"dowel/solid"
	"dowel/vector"
)

func of(t *testing.T, boxes ...[2]int) solid.Solid {
	t.Helper()
	var cells []api.Cell
	for _, x := range boxes {
		cells = append(cells, api.Cell{Vertices: []api.Vector{{x[0], 0, 0}, {x[0], 0, 1}, {x[0], 1, 0}, {x[0], 1, 1}, {x[1], 0, 0}, {x[1], 0, 1}, {x[1], 1, 0}, {x[1], 1, 1}}})
	}
	s, e := solid.Of(api.Part{Density: 1, Cells: cells}, api.Placement{Turn: [4]int{1, 0, 0, 0}, Shift: api.Point{"0", "0", "0"}})
	if e != api.OK {
		t.Fatal(e)
	}
	return s
}

func TestMeetings(t *testing.T) {
	s := Of(of(t, [2]int{0, 1}, [2]int{1, 2}), of(t, [2]int{2, 3}, [2]int{-4, -3}))
	d := vector.Of(api.Vector{1, 0, 0})
	want := []struct {
		from, to  int
		low, high api.Number
		far, near bool
	}{{0, 0, "1", "3", true, false}, {0, 1, "-5", "-3", false, false}, {1, 0, "0", "2", true, true}, {1, 1, "-6", "-4", false, false}}
	i := 0
	for m := range s.Meetings(d) {
		w := want[i]
		i++
		if m.CellFrom != w.from || m.CellTo != w.to || m.Low.Number() != w.low || m.High.Number() != w.high || m.IsFar() != w.far || m.IsLocal() != w.near {
			t.Errorf("the meeting %d is %v", i, m)
		}
		if m.IsAt(m.Low) || m.IsAt(m.High) || !m.IsAt(rational.Add(m.Low, rational.From(1))) {
			t.Errorf("IsAt of %v", m)
		}
	}
	if i != 4 {
		t.Errorf("%d meetings", i)
	}
	for range s.Meetings(d) {
		break
	}
	if p, ok := s.At(1, 1); !ok {
		t.Error("At")
	} else if low, _, _ := p.Open(d); low.Number() != "-6" {
		t.Errorf("At: %s", low.Number())
	}
	for _, l := range [][2]int{{-1, 0}, {0, -1}, {2, 0}, {0, 2}} {
		if _, ok := s.At(l[0], l[1]); ok {
			t.Errorf("At(%d)", l)
		}
	}
	three := Of(of(t, [2]int{0, 1}), of(t, [2]int{2, 3}, [2]int{-4, -3})).Reversed()
	if m, ok := three.First(d, func(m Meeting) bool { return m.CellFrom == 1 }); !ok || m.Low.Number() != "3" || m.High.Number() != "5" {
		t.Errorf("Reversed: %v, %t", m, ok)
	}
	if arc, ok := s.Witness(d, api.Local); arc != (api.Arc{CellFrom: 1}) || !ok {
		t.Errorf("Witness = %v, %t", arc, ok)
	}
	if arc, ok := s.Witness(d, api.Far); arc != (api.Arc{Time: "2"}) || !ok {
		t.Errorf("Witness = %v, %t", arc, ok)
	}
	if arc, ok := s.Witness(vector.Of(api.Vector{0, 1, 0}), api.Far); arc != (api.Arc{}) || ok {
		t.Errorf("Witness = %v, %t", arc, ok)
	}
}
