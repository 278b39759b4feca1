package database

import (
	"iter"

	"dowel/api"
	"dowel/journal"
	"dowel/revision"
)

// The kinds of changes.
const (
	create = 1
	edit   = 2
	mark   = 3
	keep   = 4
)

// change is what a function did to the state.
type change struct {
	kind    int
	product string
	created api.Product
	edits   []revision.Edit
	tag     Tag
	result  Result
}

// replay does a change that was made before.
func (b *Database) replay(x change) {
	if x.kind == create {
		if r, e := revision.New(x.created); e == api.OK {
			b.add(r)
		}
		return
	}
	p := b.products[x.product]
	if p == nil {
		return
	}
	switch x.kind {
	case edit:
		if next, e := revision.Apply(p.present(), x.edits); e == api.OK {
			p.revisions = append(p.revisions, next)
		}
	case mark:
		p.tags = append(p.tags, x.tag)
	case keep:
		p.keep(x.result)
	}
}

// The marks at the beginning of a record: whether a change begins with it, and whether one ends.
const (
	begins = 1
	ends   = 2
)

// split divides the text of a change among records.
func split(text string) []string {
	const most = journal.MaxRecord - 1
	var records []string
	mark := byte(begins)
	for len(text) > most {
		records = append(records, string(mark)+text[:most])
		text, mark = text[most:], 0
	}
	return append(records, string(mark|ends)+text)
}

// changes yields the changes that records tell. One in which power failed can lack records at its end.
func changes(records []string) iter.Seq[change] {
	return func(yield func(change) bool) {
		text := ""
		for _, r := range records {
			if r == "" {
				continue
			}
			if r[0]&begins != 0 {
				text = ""
			}
			text += r[1:]
			if r[0]&ends == 0 {
				continue
			}
			if x, ok := decode(text); ok && !yield(x) {
				return
			}
		}
	}
}
