package revision

import (
	"slices"

	"dowel/api"
	"dowel/assembly"
	"dowel/copies"
	"dowel/dimension"
)

// change is a product that is being edited.
type change struct {
	product api.Product
	put     map[Key]bool // items that are there
	lists   map[int]bool // kinds of which an item was inserted or removed
	undo    []Edit       // in the order of the edits
}

// Apply returns the next revision.
func Apply(r Revision, l []Edit) (Revision, api.Errno) {
	c, e := perform(r, l)
	if e != api.OK {
		return Revision{}, e
	}
	next := r.Number + 1
	before := numbers(r)
	number := func(k Key) int {
		if c.put[k] || k.Name == "" && c.lists[k.Kind] {
			return next
		}
		return before[k]
	}
	return Revision{next, c.product, versions(c.product, number)}, api.OK
}

// Invert returns the edits that lead back.
func Invert(r Revision, l []Edit) ([]Edit, api.Errno) {
	c, e := perform(r, l)
	if e != api.OK {
		return nil, e
	}
	slices.Reverse(c.undo)
	return c.undo, api.OK
}

// perform performs edits on the product of a revision.
func perform(r Revision, l []Edit) (*change, api.Errno) {
	if len(l) == 0 {
		return nil, api.ErrEmpty
	}
	if len(l) > MaxEdits {
		return nil, api.ErrLimit
	}
	c := &change{product: copies.Product(r.Product), put: map[Key]bool{}, lists: map[int]bool{}}
	for _, x := range l {
		edit, ok := c.operation(x.Op)
		if !ok {
			return nil, api.ErrKind
		}
		if !isWellFormed(x.Op, x.Item) {
			return nil, api.ErrForm
		}
		if e := edit(x.At, x.Item); e != api.OK {
			return nil, e
		}
	}
	if e := Check(c.product); e != api.OK {
		return nil, e
	}
	return c, api.OK
}

// operation returns the function that performs an edit, if there is such a one.
func (c *change) operation(op int) (func(at int, x Item) api.Errno, bool) {
	switch op {
	case Put:
		return c.putItem, true
	case Drop:
		return c.dropItem, true
	}
	return nil, false
}

// putItem puts a well-formed item.
func (c *change) putItem(at int, x Item) api.Errno {
	l, _ := listOf(x.Key.Kind)
	old, place, isThere := Find(c.product, x.Key)
	if isThere && at != -1 || !isThere && (at < 0 || at > len(l.names(&c.product))) {
		return api.ErrRange
	}
	if !c.knows(x) {
		return api.ErrUnknown
	}
	if isThere {
		l.put(&c.product, place, x)
		c.undo = append(c.undo, Edit{Put, -1, old})
	} else {
		c.insert(at, x)
	}
	c.put[x.Key] = true
	return api.OK
}

// insert inserts an item at a place.
func (c *change) insert(at int, x Item) {
	l, _ := listOf(x.Key.Kind)
	l.insert(&c.product, at, x)
	if x.Key.Kind == Dimension {
		c.renumber(func(d int) int {
			if d >= at {
				return d + 1
			}
			return d
		})
	}
	c.lists[x.Key.Kind] = true
	c.undo = append(c.undo, Edit{Drop, -1, Item{Key: x.Key}})
}

// dropItem removes the item with a key.
func (c *change) dropItem(at int, x Item) api.Errno {
	if at != -1 {
		return api.ErrRange
	}
	old, place, isThere := Find(c.product, x.Key)
	if !isThere {
		return api.ErrNotFound
	}
	if c.needs(x.Key, place) {
		return api.ErrConflict
	}
	l, _ := listOf(x.Key.Kind)
	l.remove(&c.product, place)
	if x.Key.Kind == Dimension {
		c.renumber(func(d int) int {
			if d > place {
				return d - 1
			}
			return d
		})
	}
	delete(c.put, x.Key)
	c.lists[x.Key.Kind] = true
	c.undo = append(c.undo, Edit{Put, place, old})
	return api.OK
}

// knows reports whether the part or the dimensions of an item are there.
func (c *change) knows(x Item) bool {
	if x.Key.Kind == Instance {
		_, ok := assembly.Part(c.product.Assembly, x.Instance.Part)
		return ok
	}
	isUnknown := func(d int) bool { return d < 0 || d >= len(c.product.Dimensions) }
	return !slices.ContainsFunc(append(usesOf(x.Constraint.Form), dimension.Uses(x.Requirement.Gap)...), isUnknown)
}

// usesOf returns the dimensions of a form.
func usesOf(f api.Form) []int { return dimension.Uses(api.Expr{Form: f}) }

// needs reports whether another item needs the one with a key, at a place.
func (c *change) needs(k Key, place int) bool {
	p := c.product
	switch k.Kind {
	case Part:
		return slices.ContainsFunc(p.Assembly.Instances, func(x api.Instance) bool { return x.Part == k.Name })
	case Dimension:
		return slices.ContainsFunc(p.Constraints, func(x api.Constraint) bool { return slices.Contains(usesOf(x.Form), place) }) ||
			slices.ContainsFunc(p.Requirements, func(x api.Requirement) bool { return slices.Contains(dimension.Uses(x.Gap), place) })
	}
	return false
}

// renumber changes all indices of dimensions in forms.
func (c *change) renumber(index func(int) int) {
	for i := range c.product.Constraints {
		renumberForm(&c.product.Constraints[i].Form, index)
	}
	for i := range c.product.Requirements {
		renumberExpr(&c.product.Requirements[i].Gap, index)
	}
}

func renumberForm(f *api.Form, index func(int) int) {
	for i := range f.Terms {
		f.Terms[i].Dimension = index(f.Terms[i].Dimension)
	}
}

func renumberExpr(x *api.Expr, index func(int) int) {
	renumberForm(&x.Form, index)
	for i := range x.Args {
		renumberExpr(&x.Args[i], index)
	}
}
