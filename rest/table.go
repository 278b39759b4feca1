package rest

import (
	"slices"

	"dowel/api"
	"dowel/assembly"
	"dowel/rational"
	"dowel/vector"
)

// face is a face of the convex hull.
type face struct {
	normal  vector.Vec
	offset  rational.Rat
	corners []vector.Vec
	behind  []int
}

// table is the bases of an assembly, in order, and its centre of mass.
type table struct {
	faces  []face
	centre vector.Vec
}

// put returns the bases of an assembly, or the first errors of all functions.
func put(a api.Assembly) (*table, api.Errno) {
	if _, _, e := assembly.Sound(a); e != api.OK {
		return nil, e
	}
	if len(a.Instances) == 0 {
		return nil, api.ErrEmpty
	}
	solids, e := assembly.Place(a)
	if e != api.OK {
		return nil, e
	}
	var points []vector.Vec
	for _, s := range solids {
		for _, c := range s.Cells {
			points = append(points, c.Vertices...)
		}
	}
	slices.SortFunc(points, vector.Compare)
	points = slices.CompactFunc(points, vector.Equal)
	if len(points) > MaxPoints {
		return nil, api.ErrLimit
	}
	_, p, e := assembly.Centre(a)
	if e != api.OK {
		return nil, e
	}
	t := &table{faces: facesOf(points)}
	t.centre, e = vector.Read(p)
	return t, e
}

// facesOf returns the faces of the hull of points in increasing order.
func facesOf(points []vector.Vec) []face {
	found := map[api.Point]bool{}
	var faces []face
	var planes []uint64 // the points of each face, as bits
	for i := range points {
		for j := range i {
			for k := range j {
				three := uint64(1)<<i | 1<<j | 1<<k
				if slices.ContainsFunc(planes, func(s uint64) bool { return three&^s == 0 }) {
					continue
				}
				normal := vector.Cross(vector.Sub(points[j], points[i]), vector.Sub(points[k], points[i]))
				f, members, ok := supporting(points, i, normal)
				if !ok || found[f.normal.Point()] {
					continue
				}
				found[f.normal.Point()] = true
				planes = append(planes, members)
				faces = append(faces, f)
			}
		}
	}
	slices.SortFunc(faces, func(f, g face) int { return vector.Compare(f.normal, g.normal) })
	for i := range faces {
		for k := range faces[i].corners {
			faces[i].behind = append(faces[i].behind, behind(faces, i, k))
		}
	}
	return faces
}

// supporting returns the face in the plane through a point with a normal, and the points in the plane; false if points lie on both sides, or none on any side.
func supporting(points []vector.Vec, at int, normal vector.Vec) (face, uint64, bool) {
	offset, side := vector.Dot(normal, points[at]), 0
	var members uint64
	var on []vector.Vec
	for i, p := range points {
		c := rational.Compare(vector.Dot(normal, p), offset)
		switch {
		case c == 0:
			members |= 1 << i
			on = append(on, p)
		case side == 0:
			side = c
		case side != c:
			return face{}, 0, false
		}
	}
	if side == 0 {
		return face{}, 0, false
	}
	if side > 0 {
		normal = vector.Neg(normal)
	}
	normal, _ = vector.Primitive(normal)
	return face{normal: normal, offset: vector.Dot(normal, points[at]), corners: walk(on, normal)}, members, true
}

// walk returns the extreme ones of some points in a plane, from the least one on. From each of them, the next one is that from which all others lie to the left; of several ones the farthest.
func walk(points []vector.Vec, normal vector.Vec) []vector.Vec {
	var corners []vector.Vec
	for at := points[0]; len(corners) == 0 || !vector.Equal(at, points[0]); {
		corners = append(corners, at)
		var next vector.Vec
		isFirst := true
		for _, p := range points {
			if !vector.Equal(p, at) && (isFirst || isBefore(vector.Sub(p, at), vector.Sub(next, at), normal)) {
				next, isFirst = p, false
			}
		}
		at = next
	}
	return corners
}

// isBefore reports whether a lies to the right of b, or behind it.
func isBefore(a, b, normal vector.Vec) bool {
	turn := vector.Det(normal, a, b).Sign()
	return turn > 0 || turn == 0 && rational.Compare(vector.Dot(a, a), vector.Dot(b, b)) > 0
}

// edge returns the corner at which an edge begins, and the direction to the next one.
func (f face) edge(k int) (from, direction vector.Vec) {
	from = f.corners[k]
	return from, vector.Sub(f.corners[(k+1)%len(f.corners)], from)
}

// behind returns the index of the face to which the opposite of an edge belongs.
func behind(faces []face, i, k int) int {
	from, direction := faces[i].edge(k)
	to := vector.Add(from, direction)
	for other, f := range faces {
		for m, c := range f.corners {
			if other != i && vector.Equal(c, to) && vector.Equal(f.corners[(m+1)%len(f.corners)], from) {
				return other
			}
		}
	}
	return -1
}

// height returns the square of the distance of the centre from the plane of a face.
func (t *table) height(f face) rational.Rat {
	above := rational.Sub(vector.Dot(f.normal, t.centre), f.offset)
	height, _ := rational.Div(rational.Mul(above, above), vector.Dot(f.normal, f.normal))
	return height
}

// margins returns the margins of the edges of a face.
func (t *table) margins(f face) []rational.Rat {
	above := rational.Sub(vector.Dot(f.normal, t.centre), f.offset)
	part, _ := rational.Div(above, vector.Dot(f.normal, f.normal))
	foot := vector.Sub(t.centre, vector.Scale(f.normal, part))
	var l []rational.Rat
	for k := range f.corners {
		from, direction := f.edge(k)
		across := vector.Cross(direction, vector.Sub(foot, from))
		margin, _ := rational.Div(vector.Dot(across, across), vector.Dot(direction, direction))
		if vector.Dot(f.normal, across).Sign() < 0 {
			margin = rational.Neg(margin)
		}
		l = append(l, margin)
	}
	return l
}

// least returns the least margin of a face.
func (t *table) least(f face) rational.Rat {
	return slices.MinFunc(t.margins(f), rational.Compare)
}

// tips returns the index of the face onto which the assembly tips; false if it rests.
func (t *table) tips(f face) (int, bool) {
	margins := t.margins(f)
	least := slices.MinFunc(margins, rational.Compare)
	if least.Sign() > 0 {
		return 0, false
	}
	at := slices.IndexFunc(margins, func(m rational.Rat) bool { return rational.Compare(m, least) == 0 })
	return f.behind[at], true
}

// plain returns the plain data of a face.
func (t *table) plain(f face) Base {
	b := Base{Normal: f.normal.Point(), Offset: f.offset.Number(), Behind: slices.Clone(f.behind), Margins: rational.Numbers(t.margins(f)), Height: t.height(f).Number()}
	for _, c := range f.corners {
		b.Corners = append(b.Corners, c.Point())
	}
	return b
}
