package outlook

import (
	"slices"
	"testing"

	"dowel/api"
	"dowel/blocking"
	"dowel/direction"
)

// scene is unit cubes at some places.
func scene(t *testing.T, places ...api.Point) *blocking.Scene {
	t.Helper()
	var a api.Assembly
	a.Parts = []api.Part{{Name: "cube", Density: 1, Cells: []api.Cell{{Vertices: []api.Vector{{0, 0, 0}, {0, 0, 1}, {0, 1, 0}, {0, 1, 1}, {1, 0, 0}, {1, 0, 1}, {1, 1, 0}, {1, 1, 1}}}}}}
	for i, p := range places {
		a.Instances = append(a.Instances, api.Instance{Name: string(rune('a' + i)), Part: "cube", Place: api.Placement{Turn: [4]int{1, 0, 0, 0}, Shift: p}})
	}
	s, e := blocking.Open(a)
	if e != api.OK {
		t.Fatal(e)
	}
	return s
}

func TestPlanesAndDirections(t *testing.T) {
	s := scene(t, api.Point{"0", "0", "0"}, api.Point{"1", "0", "0"}, api.Point{"0", "0", "1"}, api.Point{"2", "2", "0"})
	for _, kind := range []int{api.Far, api.Local} {
		o := New(s, api.Kind{Blocking: kind})
		for _, set := range [][]int{{0, 1}, {0, 1, 2}, {0, 1}, {1}, {0, 2}} {
			planes, e := o.Planes(set)
			want, f := s.Planes(set, kind)
			if !slices.Equal(planes, want) || e != api.OK || f != api.OK {
				t.Errorf("Planes(%d) = %v, %d, not %v", set, planes, e, want)
			}
			cells, _ := direction.Cells(want)
			l, e := o.Directions(set)
			if len(l) != len(cells) || e != api.OK {
				t.Fatalf("Directions(%d) = %v, %d", set, l, e)
			}
			for i, c := range cells {
				if l[i] != c.Direction {
					t.Errorf("Directions(%d) = %v", set, l)
				}
			}
		}
	}
	k := api.Kind{Blocking: api.Far, Directions: []api.Point{{"0", "0", "1"}}}
	l, e := New(s, k).Directions([]int{0, 1, 2, 3})
	if !slices.Equal(l, k.Directions) || e != api.OK {
		t.Errorf("Directions = %v, %d", l, e)
	}
	wide := scene(t, api.Point{"0", "0", "0"}, api.Point{"3", "1", "0"}, api.Point{"-2", "5", "4"}, api.Point{"7", "-3", "9"})
	if l, e := New(wide, api.Kind{Blocking: api.Far}).Directions([]int{0, 1, 2, 3}); l != nil || e != api.ErrLimit {
		t.Errorf("Directions: %d", e)
	}
}
