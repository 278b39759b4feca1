package difference

import (
	"slices"

	"dowel/api"
	"dowel/revision"
	"dowel/validity"
)

// comparison is two valid products with their changes.
type comparison struct {
	a, b    api.Product    // as they are
	sides   [2]api.Product // with common indices of dimensions
	names   []string       // of the dimensions with these indices
	changes []Change
}

func newComparison(a, b api.Product) *comparison {
	c := &comparison{a: a, b: b}
	for _, d := range slices.Concat(a.Dimensions, b.Dimensions) {
		if !slices.Contains(c.names, d.Name) {
			c.names = append(c.names, d.Name)
		}
	}
	c.sides = [2]api.Product{c.common(a), c.common(b)}
	c.changes = c.compare()
	return c
}

// common returns a product in whose forms dimensions have the common indices.
func (c *comparison) common(p api.Product) api.Product {
	q, _ := renumbered(p, func(d int) int { return slices.Index(c.names, p.Dimensions[d].Name) })
	return q
}

// itemsOf returns the items of a product by their keys.
func itemsOf(p api.Product) map[revision.Key]revision.Item {
	found := map[revision.Key]revision.Item{}
	for _, x := range revision.Items(p) {
		found[x.Key] = x
	}
	return found
}

// compare returns the changes, in the order of the keys.
func (c *comparison) compare() []Change {
	before, after := itemsOf(c.sides[0]), itemsOf(c.sides[1])
	var l []Change
	for k, x := range before {
		y, ok := after[k]
		switch {
		case !ok:
			l = append(l, Change{k, Removed})
		case !areEqual(x, y):
			l = append(l, Change{k, Changed})
		}
	}
	for k := range after {
		if _, ok := before[k]; !ok {
			l = append(l, Change{k, Added})
		}
	}
	slices.SortFunc(l, func(x, y Change) int { return revision.CompareKeys(x.Key, y.Key) })
	return l
}

// areEqual reports whether two items with the same key are equal.
func areEqual(x, y revision.Item) bool {
	product := func(x revision.Item) api.Product {
		return api.Product{
			Assembly:     api.Assembly{Parts: []api.Part{x.Part}, Instances: []api.Instance{x.Instance}},
			Dimensions:   []api.Dimension{x.Dimension},
			Constraints:  []api.Constraint{x.Constraint},
			Requirements: []api.Requirement{x.Requirement},
		}
	}
	return revision.Equal(product(x), product(y))
}

// restore returns the second product with the items with some keys as in the first one. It need not be valid. Error: ErrUnknown.
func (c *comparison) restore(l []revision.Key) (api.Product, api.Errno) {
	given := map[revision.Key]bool{}
	for _, k := range l {
		given[k] = true
	}
	a, b := c.sides[0], c.sides[1]
	p := api.Product{
		Name: b.Name,
		Assembly: api.Assembly{
			Parts:     restored(revision.Part, a.Assembly.Parts, b.Assembly.Parts, func(x api.Part) string { return x.Name }, given),
			Instances: restored(revision.Instance, a.Assembly.Instances, b.Assembly.Instances, func(x api.Instance) string { return x.Name }, given),
		},
		Dimensions:   restored(revision.Dimension, a.Dimensions, b.Dimensions, func(x api.Dimension) string { return x.Name }, given),
		Constraints:  restored(revision.Constraint, a.Constraints, b.Constraints, func(x api.Constraint) string { return x.Name }, given),
		Requirements: restored(revision.Requirement, a.Requirements, b.Requirements, func(x api.Requirement) string { return x.Name }, given),
	}
	isWithoutPart := func(x api.Instance) bool {
		return !slices.ContainsFunc(p.Assembly.Parts, func(part api.Part) bool { return part.Name == x.Part })
	}
	p.Assembly.Instances = slices.DeleteFunc(p.Assembly.Instances, isWithoutPart)
	return renumbered(p, func(d int) int {
		return slices.IndexFunc(p.Dimensions, func(x api.Dimension) bool { return x.Name == c.names[d] })
	})
}

// restored returns the items of a list of the second product, those with given keys as in the first one.
func restored[T any](kind int, a, b []T, name func(T) string, given map[revision.Key]bool) []T {
	isGiven := func(x T) bool { return given[revision.Key{Kind: kind, Name: name(x)}] }
	find := func(l []T, x T) int { return slices.IndexFunc(l, func(y T) bool { return name(y) == name(x) }) }
	var l []T
	for _, x := range b {
		if !isGiven(x) {
			l = append(l, x)
		} else if at := find(a, x); at >= 0 {
			l = append(l, a[at])
		}
	}
	for _, x := range a {
		if isGiven(x) && find(b, x) < 0 {
			l = append(l, x)
		}
	}
	return l
}

// reasons returns the reasons why a question has another answer. Error: ErrUndecided.
func (c *comparison) reasons(before, after validity.Result) ([]revision.Key, api.Errno) {
	if validity.Same(before, after) {
		return nil, api.OK
	}
	l := c.relevant(before.Question)
	leads := func(l []revision.Key) bool {
		p, e := c.restore(l)
		if e != api.OK {
			return false
		}
		x, e := ask(p, before.Question)
		return e == api.OK && validity.Same(x, before)
	}
	if !leads(l) {
		return nil, api.ErrUndecided
	}
	for {
		less := reduced(l, leads)
		if len(less) == len(l) {
			return l, api.OK
		}
		l = less
	}
}

// reduced returns what is left of keys that are left out one after another, if what remains leads to the answer without them.
func reduced(l []revision.Key, leads func([]revision.Key) bool) []revision.Key {
	for i := 0; i < len(l); {
		less := slices.Delete(slices.Clone(l), i, i+1)
		if leads(less) {
			l = less
		} else {
			i++
		}
	}
	return l
}

// relevant returns the keys of the changes that a question depends on in one of both products.
func (c *comparison) relevant(q validity.Question) []revision.Key {
	reads := map[revision.Key]bool{}
	for _, p := range []api.Product{c.a, c.b} {
		keys, _ := validity.Reads(p, q)
		for _, k := range keys {
			reads[k] = true
		}
	}
	var l []revision.Key
	for _, x := range c.changes {
		if reads[x.Key] {
			l = append(l, x.Key)
		}
	}
	return l
}
