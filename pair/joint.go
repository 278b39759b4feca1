package pair

import (
	"dowel/api"
	"dowel/rational"
	"dowel/twist"
	"dowel/vector"
)

// joint is a pair with vectors.
type joint struct {
	Kind             int
	direction, point vector.Vec
	pitch            rational.Rat
}

// has tells which fields a kind has.
type has struct{ direction, point, pitch bool }

// fields returns the fields of each kind that has some.
func fields() map[int]has {
	return map[int]has{
		Revolute:    {direction: true, point: true},
		Prismatic:   {direction: true},
		Helical:     {direction: true, point: true, pitch: true},
		Cylindrical: {direction: true, point: true},
		Spherical:   {point: true},
		Planar:      {direction: true},
	}
}

// degrees returns the least and the greatest number of degrees of a kind.
func degrees(kind int) (least, greatest int) {
	switch kind {
	case Revolute, Prismatic, Helical:
		return 1, 1
	case Cylindrical:
		return 2, 2
	case Spherical, Planar:
		return 3, 3
	case Free:
		return 6, 6
	case Other:
		return 2, 5
	}
	return 0, 0
}

// fits reports whether a pair of a kind can have a number of degrees.
func fits(kind, n int) bool {
	least, greatest := degrees(kind)
	return least <= n && n <= greatest
}

// guesses returns, in the order of the kinds, functions that return the pair of a kind that could have some lines (in reduced form); so a line that turns comes first, if there is one.
func guesses() []func([]twist.Twist) joint {
	about := func(kind int) func([]twist.Twist) joint {
		return func(lines []twist.Twist) joint {
			if len(lines) == 0 {
				return joint{Kind: Other}
			}
			axis := twist.AxisOf(lines[0])
			return joint{kind, positive(axis.Direction), axis.Point, axis.Pitch}
		}
	}
	of := func(kind int) func([]twist.Twist) joint {
		return func([]twist.Twist) joint { return joint{Kind: kind} }
	}
	return []func([]twist.Twist) joint{of(Fixed), about(Revolute), about(Prismatic), about(Helical), about(Cylindrical), ball, about(Planar), of(Free)}
}

// ball returns the spherical pair whose rotations about the directions of the coordinates have the velocities of three lines.
func ball(lines []twist.Twist) joint {
	if !fits(Spherical, len(lines)) {
		return joint{Kind: Other}
	}
	return joint{Kind: Spherical, point: vector.Vec{lines[1].Linear[2], lines[2].Linear[0], lines[0].Linear[1]}}
}

func axis(i int) vector.Vec {
	var v vector.Vec
	v[i] = rational.From(1)
	return v
}

// lines returns twists that span the free space.
func (j joint) lines() []twist.Twist {
	turn, shift := twist.Rotate(j.direction, j.point), twist.Translate(j.direction)
	switch j.Kind {
	case Revolute:
		return []twist.Twist{turn}
	case Prismatic:
		return []twist.Twist{shift}
	case Helical:
		return []twist.Twist{twist.Add(turn, twist.Scale(shift, j.pitch))}
	case Cylindrical:
		return []twist.Twist{turn, shift}
	case Planar:
		return append([]twist.Twist{twist.Rotate(j.direction, vector.Vec{})}, across(j.direction)...)
	case Spherical:
		return j.turns()
	case Free:
		l := j.turns()
		for i := range 3 {
			l = append(l, twist.Translate(axis(i)))
		}
		return l
	}
	return nil
}

// turns returns the rotations about the directions of the coordinates.
func (j joint) turns() []twist.Twist {
	var l []twist.Twist
	for i := range 3 {
		l = append(l, twist.Rotate(axis(i), j.point))
	}
	return l
}

// across returns two translations perpendicular to a direction: the first ones of its cross products that are not parallel.
func across(direction vector.Vec) []twist.Twist {
	var l []twist.Twist
	for i := range 3 {
		v := vector.Cross(direction, axis(i))
		if vector.IsZero(v) || len(l) == 2 || len(l) == 1 && vector.Parallel(l[0].Linear, v) {
			continue
		}
		l = append(l, twist.Translate(v))
	}
	return l
}

// plain returns the plain data of a pair, with the fields of its kind.
func (j joint) plain(degrees int) Joint {
	x := Joint{Kind: j.Kind, Degrees: degrees}
	has := fields()[j.Kind]
	if has.direction {
		x.Direction = j.direction.Point()
	}
	if has.point {
		x.Point = j.point.Point()
	}
	if has.pitch {
		x.Pitch = j.pitch.Number()
	}
	x.Closed = j.Kind == Free
	return x
}

// read returns a pair with vectors, or the error of Check.
func read(j Joint) (joint, api.Errno) {
	if j.Kind < Fixed || j.Kind > Other {
		return joint{}, api.ErrKind
	}
	if !fits(j.Kind, j.Degrees) {
		return joint{}, api.ErrRange
	}
	if j.Kind == Free && !j.Closed {
		return joint{}, api.ErrForm
	}
	x := joint{Kind: j.Kind}
	has := fields()[j.Kind]
	var e api.Errno
	if x.direction, e = readPoint(j.Direction, has.direction); e != api.OK {
		return joint{}, e
	}
	if has.direction && (vector.IsZero(x.direction) || !vector.Equal(positive(x.direction), x.direction)) {
		return joint{}, api.ErrForm
	}
	if x.point, e = readPoint(j.Point, has.point); e != api.OK {
		return joint{}, e
	}
	// The nearest point of a line is perpendicular to it.
	if vector.Dot(x.point, x.direction).Sign() != 0 {
		return joint{}, api.ErrForm
	}
	if !has.pitch {
		if j.Pitch != "" {
			return joint{}, api.ErrForm
		}
		return x, api.OK
	}
	if x.pitch, e = rational.Read(j.Pitch); e != api.OK {
		return joint{}, e
	}
	if x.pitch.Sign() == 0 {
		return joint{}, api.ErrForm
	}
	return x, api.OK
}

// readPoint reads a field, if the kind has it; otherwise it must be empty.
func readPoint(p api.Point, has bool) (vector.Vec, api.Errno) {
	if has {
		return vector.Read(p)
	}
	if p != (api.Point{}) {
		return vector.Vec{}, api.ErrForm
	}
	return vector.Vec{}, api.OK
}
