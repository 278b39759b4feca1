package impossible

import (
	"iter"
	"slices"

	"dowel/api"
	"dowel/blocking"
	"dowel/direction"
	"dowel/outlook"
	"dowel/removable"
)

// remaining is what is left of an assembly: what a question is about, and what it is answered with.
type remaining struct{ left []int }

// without returns what is left without some instances.
func (r remaining) without(moved []int) remaining {
	return remaining{slices.DeleteFunc(slices.Clone(r.left), func(i int) bool { return slices.Contains(moved, i) })}
}

// question is a question about what is left.
type question struct {
	remaining
	scene   *blocking.Scene
	outlook *outlook.Outlook
	kind    api.Kind
	most    int
	kept    int
}

// answer is what is left when an assembly has been cleared as far as possible.
type answer struct {
	remaining
	isStuck bool
}

func newQuestion(scene *blocking.Scene, set []int, kind api.Kind, most, kept int) *question {
	return &question{remaining{slices.Clone(set)}, scene, outlook.New(scene, kind), kind, most, kept}
}

// about returns the same question about another set, with another instance that is kept.
func (q *question) about(set []int, kept int) *question {
	other := *q
	other.left, other.kept = slices.Clone(set), kept
	return &other
}

// views yields the directions of a question with the arcs between what is left, and the error that ends this.
func (q *question) views() iter.Seq2[api.Block, api.Errno] {
	return func(yield func(api.Block, api.Errno) bool) {
		directions, e := q.outlook.Directions(q.left)
		if e != api.OK {
			yield(api.Block{}, e)
			return
		}
		for _, d := range directions {
			arcs, e := q.scene.Arcs(q.left, d, q.kind.Blocking)
			if !yield(api.Block{Direction: d, Arcs: arcs}, e) || e != api.OK {
				return
			}
		}
	}
}

// candidate returns the first restricted candidate of the first direction that has one.
func (q *question) candidate() (moved []int, found bool, e api.Errno) {
	for view, e := range q.views() {
		if e != api.OK {
			return nil, false, e
		}
		g, e := blocking.Graph(q.left, view.Arcs)
		if e != api.OK {
			return nil, false, e
		}
		nodes, found, e := removable.Least(g, q.most, slices.Index(q.left, q.kept))
		if e != api.OK {
			return nil, false, e
		}
		if found {
			for i, n := range nodes {
				nodes[i] = q.left[n]
			}
			return nodes, true, api.OK
		}
	}
	return nil, false, api.OK
}

// clear moves candidates out as long as there are some, and returns what is stuck.
func (q *question) clear() (answer, api.Errno) {
	a := answer{remaining: q.remaining}
	for len(a.left) > 1 {
		moved, found, e := q.about(a.left, q.kept).candidate()
		if e != api.OK {
			return answer{}, e
		}
		if !found {
			a.isStuck = true
			break
		}
		a.remaining = a.without(moved)
	}
	return a, api.OK
}

// prove returns the core of the question, if the set is held.
func (q *question) prove() (c api.Core, held bool, e api.Errno) {
	_, found, e := q.candidate()
	if found || e != api.OK {
		return api.Core{}, false, e
	}
	c = api.Core{Kind: api.Kind{Blocking: q.kind.Blocking, Directions: slices.Clone(q.kind.Directions)}, Set: slices.Clone(q.left), Most: q.most, Kept: q.kept}
	if len(q.kind.Directions) == 0 {
		if c.Planes, e = q.outlook.Planes(q.left); e != api.OK {
			return api.Core{}, false, e
		}
		if c.Tree, e = direction.Tree(c.Planes); e != api.OK {
			return api.Core{}, false, e
		}
	}
	for view, e := range q.views() {
		if e != api.OK {
			return api.Core{}, false, e
		}
		c.Blocks = append(c.Blocks, view)
	}
	return c, true, api.OK
}
