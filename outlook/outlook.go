// Package outlook finds the directions in which sets of instances have to be examined: those of a kind of motion, or, for all directions, one for each part into which their planes of blocking divide these. The planes of two instances are found only once.
package outlook

import (
	"slices"

	"dowel/api"
	"dowel/blocking"
	"dowel/direction"
)

// pair is two instances, of which the first one is the lesser one.
type pair struct{ a, b int }

// Outlook is a scene and a kind of motion.
type Outlook struct {
	scene  *blocking.Scene
	kind   api.Kind
	planes map[pair][]api.Point
}

// New returns the outlook of a scene for a valid kind of motion.
func New(scene *blocking.Scene, kind api.Kind) *Outlook {
	kind.Directions = slices.Clone(kind.Directions)
	return &Outlook{scene, kind, map[pair][]api.Point{}}
}

// Planes returns the planes of blocking of a set, as an arrangement. Error: ErrLimit if there are too many of them.
func (o *Outlook) Planes(set []int) ([]api.Point, api.Errno) {
	var all []api.Point
	for i, b := range set {
		for _, a := range set[:i] {
			planes, e := o.between(pair{a, b})
			if e != api.OK {
				return nil, e
			}
			all = append(all, planes...)
		}
	}
	return direction.Collect(all)
}

func (o *Outlook) between(p pair) ([]api.Point, api.Errno) {
	if planes, ok := o.planes[p]; ok {
		return planes, api.OK
	}
	planes, e := o.scene.Planes([]int{p.a, p.b}, o.kind.Blocking)
	if e == api.OK {
		o.planes[p] = planes
	}
	return planes, e
}

// Directions returns the directions in which a set has to be examined, in order.
func (o *Outlook) Directions(set []int) ([]api.Point, api.Errno) {
	if len(o.kind.Directions) > 0 {
		return slices.Clone(o.kind.Directions), api.OK
	}
	planes, e := o.Planes(set)
	if e != api.OK {
		return nil, e
	}
	cells, e := direction.Cells(planes)
	if e != api.OK {
		return nil, e
	}
	directions := make([]api.Point, len(cells))
	for i, c := range cells {
		directions[i] = c.Direction
	}
	return directions, api.OK
}
