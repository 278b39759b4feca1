package validity

import (
	"dowel/api"
	"dowel/assembly"
	"dowel/clearance"
	"dowel/margin"
	"dowel/meeting"
	"dowel/revision"
	"dowel/solid"
	"dowel/stackup"
)

// kind is what is done with questions of a kind. All but check are called for questions that check accepts.
type kind struct {
	check   func(p api.Product, names [2]string) api.Errno
	reads   func(p api.Product, names [2]string) []revision.Key // in any order
	ask     func(p api.Product, names [2]string) (Result, api.Errno)
	confirm func(p api.Product, x Result) api.Errno
	same    func(a, b Result) bool
}

// kindOf returns a kind, if there is such a one.
func kindOf(number int) (kind, bool) {
	switch number {
	case Lie:
		return kind{checkPair, readsOfPair, askLie, confirmLie, func(a, b Result) bool { return a.Status == b.Status }}, true
	case Gap:
		return kind{checkPair, readsOfPair, askGap, confirmGap, func(a, b Result) bool { return a.Distance.Value == b.Distance.Value }}, true
	case Worst:
		return kind{checkRequirement, readsOfRequirement, askWorst, confirmWorst, func(a, b Result) bool { return answerOf(a.Report) == answerOf(b.Report) }}, true
	}
	return kind{}, false
}

func checkPair(p api.Product, names [2]string) api.Errno {
	for _, name := range names {
		if _, ok := assembly.Index(p.Assembly, name); !ok {
			return api.ErrUnknown
		}
	}
	if names[0] == names[1] {
		return api.ErrConflict
	}
	return api.OK
}

func readsOfPair(p api.Product, names [2]string) []revision.Key {
	var l []revision.Key
	for _, name := range names {
		keys, _ := revision.Reads(p, revision.Key{Kind: revision.Instance, Name: name})
		l = append(l, keys...)
	}
	return l
}

// solids returns two instances in their places.
func solids(p api.Product, names [2]string) (a, b solid.Solid) {
	place := func(name string) solid.Solid {
		at, _ := assembly.Index(p.Assembly, name)
		x := p.Assembly.Instances[at]
		part, _ := assembly.Part(p.Assembly, x.Part)
		s, _ := solid.Of(part, x.Place)
		return s
	}
	return place(names[0]), place(names[1])
}

func askLie(p api.Product, names [2]string) (Result, api.Errno) {
	var x Result
	a, b := solids(p, names)
	for _, c := range a.Cells {
		for _, d := range b.Cells {
			x.Separations = append(x.Separations, meeting.Prove(c, d))
		}
	}
	x.Status = status(x.Separations)
	return x, api.OK
}

// status returns the status that follows from those of pairs of cells.
func status(l []api.Separation) int {
	s := api.Apart
	for _, x := range l {
		s = max(s, x.Kind)
	}
	return s
}

func confirmLie(p api.Product, x Result) api.Errno {
	a, b := solids(p, x.Question.Names)
	if len(x.Separations) != len(a.Cells)*len(b.Cells) || !isZeroDistance(x.Distance) || !isZeroReport(x.Report) {
		return api.ErrCertificate
	}
	for i, s := range x.Separations {
		if e := meeting.Verify(a.Cells[i/len(b.Cells)], b.Cells[i%len(b.Cells)], s); e != api.OK {
			return api.ErrCertificate
		}
	}
	if x.Status != status(x.Separations) {
		return api.ErrCertificate
	}
	return api.OK
}

func askGap(p api.Product, names [2]string) (Result, api.Errno) {
	distance, e := clearance.Solids(solids(p, names))
	return Result{Distance: distance}, e
}

func confirmGap(p api.Product, x Result) api.Errno {
	a, b := solids(p, x.Question.Names)
	if x.Status != 0 || len(x.Separations) > 0 || !isZeroReport(x.Report) || clearance.Verify(a, b, x.Distance) != api.OK {
		return api.ErrCertificate
	}
	return api.OK
}

// find returns the requirement with a name.
func find(p api.Product, name string) (api.Requirement, bool) {
	x, _, ok := revision.Find(p, revision.Key{Kind: revision.Requirement, Name: name})
	return x.Requirement, ok
}

func checkRequirement(p api.Product, names [2]string) api.Errno {
	if _, ok := find(p, names[0]); !ok {
		return api.ErrUnknown
	}
	if names[1] != "" {
		return api.ErrForm
	}
	return api.OK
}

func readsOfRequirement(p api.Product, names [2]string) []revision.Key {
	l := []revision.Key{{Kind: revision.Requirement, Name: names[0]}, {Kind: revision.Dimension}, {Kind: revision.Constraint}}
	for _, d := range p.Dimensions {
		l = append(l, revision.Key{Kind: revision.Dimension, Name: d.Name})
	}
	for _, c := range p.Constraints {
		l = append(l, revision.Key{Kind: revision.Constraint, Name: c.Name})
	}
	return l
}

// problem returns the problem of a product. Error: that of stackup.Check.
func problem(p api.Product) (stackup.Problem, api.Errno) {
	q := stackup.Problem{Dimensions: p.Dimensions, Constraints: p.Constraints}
	return q, stackup.Check(q)
}

func askWorst(p api.Product, names [2]string) (Result, api.Errno) {
	q, e := problem(p)
	if e != api.OK {
		return Result{}, e
	}
	r, _ := find(p, names[0])
	report, e := stackup.Examine(q, r)
	return Result{Report: report}, e
}

func confirmWorst(p api.Product, x Result) api.Errno {
	q, e := problem(p)
	if e != api.OK {
		return e
	}
	r, _ := find(p, x.Question.Names[0])
	if r.Gap.Op != api.OpForm {
		return api.ErrKind
	}
	report := x.Report
	isProved := stackup.Verify(q, r.Gap.Form, false, report.Least) == api.OK && stackup.Verify(q, r.Gap.Form, true, report.Greatest) == api.OK
	if !isProved || x.Status != 0 || len(x.Separations) > 0 || !isZeroDistance(x.Distance) {
		return api.ErrCertificate
	}
	below, above, met := margin.Of(r.Low, r.High, report.Least.Value, report.Greatest.Value)
	if report.Met != met || report.Below != below || report.Above != above {
		return api.ErrCertificate
	}
	return api.OK
}

// answer is what a report says, without its proof.
type answer struct {
	met                           bool
	least, greatest, below, above api.Number
}

func answerOf(r stackup.Report) answer {
	return answer{r.Met, r.Least.Value, r.Greatest.Value, r.Below, r.Above}
}

func isZeroDistance(d api.Distance) bool {
	return d.Value == "" && d.A == api.Point{} && d.B == api.Point{} && len(d.Normals) == 0
}

func isZeroReport(r stackup.Report) bool {
	isZero := func(w api.Worst) bool { return len(w.At) == 0 && len(w.Cases) == 0 }
	return answerOf(r) == answer{} && isZero(r.Least) && isZero(r.Greatest)
}
