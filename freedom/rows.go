package freedom

import (
	"iter"
	"slices"

	"dowel/api"
	"dowel/contact"
	"dowel/rational"
	"dowel/twist"
	"dowel/vector"
)

// checkLists returns the error of two lists of instances.
func checkLists(count int, set, rest []int) api.Errno {
	if len(set) == 0 {
		return api.ErrEmpty
	}
	for _, l := range [][]int{set, rest} {
		for i, k := range l {
			if k < 0 || k >= count {
				return api.ErrRange
			}
			if i > 0 && l[i-1] >= k {
				return api.ErrOrder
			}
		}
	}
	if slices.ContainsFunc(rest, func(i int) bool { return slices.Contains(set, i) }) {
		return api.ErrConflict
	}
	return api.OK
}

// proper returns the proper contacts of an assembly, or the first errors of all functions.
func proper(a api.Assembly, set, rest []int) ([]api.Contact, api.Errno) {
	contacts, e := contact.Of(a)
	if e != api.OK {
		return nil, e
	}
	if e := checkLists(len(a.Instances), set, rest); e != api.OK {
		return nil, e
	}
	return slices.DeleteFunc(contacts, func(c api.Contact) bool { return !contact.IsProper(c) }), api.OK
}

// coefficients are what a contact demands of the twist of its instance A, at one of its points.
type coefficients [6]rational.Rat

// demands yields the coefficients of a contact for each of its points.
func demands(c api.Contact) iter.Seq[coefficients] {
	return func(yield func(coefficients) bool) {
		normal, _ := vector.Read(c.Normals[0])
		for _, p := range c.Points {
			at, _ := vector.Read(p)
			if !yield(coefficients(twist.Row(at, normal))) {
				return
			}
		}
	}
}

// put adds coefficients, multiplied by a sign, to a row, from a place on.
func put(row []rational.Rat, from int, c coefficients, sign int) {
	for i, x := range c {
		row[from+i] = rational.Mul(rational.From(sign), x)
	}
}

// rows returns the rows of a set against a rest.
func rows(a api.Assembly, set, rest []int) ([][]rational.Rat, api.Errno) {
	contacts, e := proper(a, set, rest)
	if e != api.OK {
		return nil, e
	}
	var l [][]rational.Rat
	for _, i := range contact.Select(contacts, set, rest) {
		sign := -1
		if slices.Contains(set, contacts[i].A) {
			sign = 1
		}
		for c := range demands(contacts[i]) {
			row := make([]rational.Rat, 6)
			put(row, 0, c, sign)
			l = append(l, row)
		}
	}
	return limited(l)
}

// joint returns the joint rows of moving instances against fixed ones.
func joint(a api.Assembly, moving, fixed []int) ([][]rational.Rat, api.Errno) {
	contacts, e := proper(a, moving, fixed)
	if e != api.OK {
		return nil, e
	}
	all := slices.Concat(moving, fixed)
	var l [][]rational.Rat
	for _, i := range contact.Select(contacts, moving, all) {
		atA, atB := slices.Index(moving, contacts[i].A), slices.Index(moving, contacts[i].B)
		for c := range demands(contacts[i]) {
			row := make([]rational.Rat, 6*len(moving))
			if atA >= 0 {
				put(row, 6*atA, c, 1)
			}
			if atB >= 0 {
				put(row, 6*atB, c, -1)
			}
			l = append(l, row)
		}
	}
	return limited(l)
}

func limited(l [][]rational.Rat) ([][]rational.Rat, api.Errno) {
	if len(l) > api.MaxRows {
		return nil, api.ErrLimit
	}
	return l, api.OK
}

// plain returns rows with the bound 0.
func plain(l [][]rational.Rat) []api.Row {
	rows := make([]api.Row, len(l))
	for i, r := range l {
		rows[i] = api.Row{Coefficients: rational.Numbers(r), Bound: "0"}
	}
	return rows
}
