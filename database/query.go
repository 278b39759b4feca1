package database

import (
	"slices"

	"dowel/api"
	"dowel/copies"
	"dowel/revision"
)

// Products returns the names of all products, in the order of their creation.
func (b *Database) Products() []string {
	if b.check() != api.OK {
		return nil
	}
	return slices.Clone(b.names)
}

// Last returns the number of the present revision.
func (b *Database) Last(product string) (int, api.Errno) {
	p, e := b.find(product)
	if e != api.OK {
		return 0, e
	}
	return p.present().Number, api.OK
}

// at returns a product with a revision of it.
func (b *Database) at(product string, number int) (*product, revision.Revision, api.Errno) {
	p, e := b.find(product)
	if e != api.OK {
		return nil, revision.Revision{}, e
	}
	if number < 1 || number > len(p.revisions) {
		return nil, revision.Revision{}, api.ErrRange
	}
	return p, p.revisions[number-1], api.OK
}

// At returns a revision.
func (b *Database) At(product string, number int) (revision.Revision, api.Errno) {
	_, r, e := b.at(product, number)
	if e != api.OK {
		return revision.Revision{}, e
	}
	return revision.Revision{Number: r.Number, Product: copies.Product(r.Product), Versions: slices.Clone(r.Versions)}, api.OK
}

// Tags returns the tags of a product, in the order in which they were given.
func (b *Database) Tags(product string) ([]Tag, api.Errno) {
	p, e := b.find(product)
	if e != api.OK {
		return nil, e
	}
	return slices.Clone(p.tags), api.OK
}

// Find returns the number of the revision that a tag names.
func (b *Database) Find(product, tag string) (int, api.Errno) {
	p, e := b.find(product)
	if e != api.OK {
		return 0, e
	}
	number, ok := p.tag(tag)
	if !ok {
		return 0, api.ErrUnknown
	}
	return number, api.OK
}

// results returns the results that hold for a revision, or all others.
func (b *Database) results(product string, number int, hold bool) ([]Result, api.Errno) {
	p, r, e := b.at(product, number)
	if e != api.OK {
		return nil, e
	}
	var l []Result
	for _, x := range p.results {
		if revision.Fresh(r, x.Reads) == hold {
			l = append(l, Result{x.Name, x.Text, slices.Clone(x.Reads)})
		}
	}
	return l, api.OK
}

// Results returns the results that hold for a revision.
func (b *Database) Results(product string, number int) ([]Result, api.Errno) {
	return b.results(product, number, true)
}

// Stale returns the results that do not hold for a revision.
func (b *Database) Stale(product string, number int) ([]Result, api.Errno) {
	return b.results(product, number, false)
}

// History returns the numbers of the revisions in which an item was put or removed.
func (b *Database) History(product string, k revision.Key) ([]int, api.Errno) {
	p, e := b.find(product)
	if e != api.OK {
		return nil, e
	}
	var numbers []int
	wasThere := false
	for _, r := range p.revisions {
		at := slices.IndexFunc(r.Versions, func(v revision.Version) bool { return v.Key == k })
		isThere := at >= 0
		if isThere && r.Versions[at].Number == r.Number || !isThere && wasThere {
			numbers = append(numbers, r.Number)
		}
		wasThere = isThere
	}
	return numbers, api.OK
}
