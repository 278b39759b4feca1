package revision

import (
	"slices"

	"dowel/api"
	"dowel/copies"
	"dowel/document"
)

// list is how a product keeps the items of a kind.
type list struct {
	names  func(p *api.Product) []string
	item   func(p *api.Product, at int) Item // a copy
	put    func(p *api.Product, at int, x Item)
	insert func(p *api.Product, at int, x Item)
	remove func(p *api.Product, at int)
	name   func(x Item) string
	blank  func(x Item) Item // without the field of the kind
}

// listOf returns the list of a kind, if there is such a kind.
func listOf(kind int) (list, bool) {
	switch kind {
	case Part:
		return makeList(kind, func(p *api.Product) *[]api.Part { return &p.Assembly.Parts }, func(x *Item) *api.Part { return &x.Part }, func(x api.Part) string { return x.Name }, copies.Part), true
	case Instance:
		same := func(x api.Instance) api.Instance { return x }
		return makeList(kind, func(p *api.Product) *[]api.Instance { return &p.Assembly.Instances }, func(x *Item) *api.Instance { return &x.Instance }, func(x api.Instance) string { return x.Name }, same), true
	case Dimension:
		same := func(x api.Dimension) api.Dimension { return x }
		return makeList(kind, func(p *api.Product) *[]api.Dimension { return &p.Dimensions }, func(x *Item) *api.Dimension { return &x.Dimension }, func(x api.Dimension) string { return x.Name }, same), true
	case Constraint:
		return makeList(kind, func(p *api.Product) *[]api.Constraint { return &p.Constraints }, func(x *Item) *api.Constraint { return &x.Constraint }, func(x api.Constraint) string { return x.Name }, copies.Constraint), true
	case Requirement:
		return makeList(kind, func(p *api.Product) *[]api.Requirement { return &p.Requirements }, func(x *Item) *api.Requirement { return &x.Requirement }, func(x api.Requirement) string { return x.Name }, copies.Requirement), true
	}
	return list{}, false
}

// makeList returns the list of a kind, by where its items are in a product and in an Item.
func makeList[T any](kind int, in func(*api.Product) *[]T, of func(*Item) *T, name func(T) string, copied func(T) T) list {
	return list{
		names: func(p *api.Product) []string {
			var l []string
			for _, x := range *in(p) {
				l = append(l, name(x))
			}
			return l
		},
		item: func(p *api.Product, at int) Item {
			one := copied((*in(p))[at])
			x := Item{Key: Key{kind, name(one)}}
			*of(&x) = one
			return x
		},
		put: func(p *api.Product, at int, x Item) { (*in(p))[at] = copied(*of(&x)) },
		insert: func(p *api.Product, at int, x Item) {
			*in(p) = slices.Insert(*in(p), at, copied(*of(&x)))
		},
		remove: func(p *api.Product, at int) { *in(p) = slices.Delete(*in(p), at, at+1) },
		name:   func(x Item) string { return name(*of(&x)) },
		blank: func(x Item) Item {
			var zero T
			*of(&x) = zero
			return x
		},
	}
}

// isZero reports whether all fields of an item but its key are zero.
func isZero(x Item) bool {
	// Products compare nil and empty lists as equal.
	product := func(x Item) api.Product {
		return api.Product{
			Assembly:     api.Assembly{Parts: []api.Part{x.Part}, Instances: []api.Instance{x.Instance}},
			Dimensions:   []api.Dimension{x.Dimension},
			Constraints:  []api.Constraint{x.Constraint},
			Requirements: []api.Requirement{x.Requirement},
		}
	}
	return document.Equal(product(x), product(Item{}))
}

// isWellFormed reports whether an item can be that of an edit.
func isWellFormed(op int, x Item) bool {
	l, ok := listOf(x.Key.Kind)
	if !ok {
		return false
	}
	if op == Drop {
		return isZero(x)
	}
	return l.name(x) == x.Key.Name && isZero(l.blank(x))
}
