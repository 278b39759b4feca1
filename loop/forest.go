package loop

import (
	"dowel/api"
	"dowel/dimension"
	"dowel/rational"
)

// forest is a valid network with a spanning forest.
type forest struct {
	Network
	links      []int
	part       []int // the least feature of the part of each feature
	neighbours map[int][]Step
}

// open returns the forest of a network, or the error of Check.
func open(n Network) (*forest, api.Errno) {
	if e := Check(n); e != api.OK {
		return nil, e
	}
	f := &forest{Network: n, part: make([]int, n.Features), neighbours: map[int][]Step{}}
	for i := range f.part {
		f.part[i] = i
	}
	for i, l := range n.Links {
		if f.part[l.From] != f.part[l.To] {
			f.add(i)
		}
	}
	return f, api.OK
}

// openAt returns the forest of a network, and values of its dimensions.
func openAt(n Network, values []api.Number) (*forest, []rational.Rat, api.Errno) {
	f, e := open(n)
	if e != api.OK {
		return nil, nil, e
	}
	if len(values) != n.Dimensions {
		return nil, nil, api.ErrSize
	}
	at, e := rational.Reads(values)
	return f, at, e
}

// add adds a link that connects two parts.
func (f *forest) add(link int) {
	l := f.Links[link]
	a, b := f.part[l.From], f.part[l.To]
	for i, p := range f.part {
		if p == a || p == b {
			f.part[i] = min(a, b)
		}
	}
	f.links = append(f.links, link)
	f.neighbours[l.From] = append(f.neighbours[l.From], Step{link, true})
	f.neighbours[l.To] = append(f.neighbours[l.To], Step{link, false})
}

// begin and end return the features between which a step leads.
func (n Network) begin(s Step) int {
	if s.Forward {
		return n.Links[s.Link].From
	}
	return n.Links[s.Link].To
}

func (n Network) end(s Step) int { return n.begin(Step{s.Link, !s.Forward}) }

// steps returns the steps of the forest from a feature.
func (f *forest) steps(feature int) []Step { return f.neighbours[feature] }

// path returns the path between two features of a part.
func (f *forest) path(from, to int) []Step {
	isEnd := func(feature int) bool { return feature == to }
	path, _ := follow(from, -1, isEnd, f.steps, f.end)
	return path
}

// follow returns the steps from a feature to one at which the path ends, that do not begin with a link, if there are any.
func follow(from, without int, isEnd func(int) bool, steps func(int) []Step, end func(Step) int) ([]Step, bool) {
	if isEnd(from) {
		return nil, true
	}
	for _, s := range steps(from) {
		if s.Link == without {
			continue
		}
		if rest, ok := follow(end(s), s.Link, isEnd, steps, end); ok {
			return append([]Step{s}, rest...), true
		}
	}
	return nil, false
}

// sum returns the form of a chain.
func (n Network) sum(l []Step) api.Form {
	sum := api.Form{Constant: "0"}
	for _, s := range l {
		length := n.Links[s.Link].Length
		if !s.Forward {
			length = negative(length)
		}
		sum = dimension.Add(sum, length)
	}
	return sum
}

// loops returns the loop of each link that does not belong to the forest.
func (f *forest) loops() []Loop {
	belongs := map[int]bool{}
	for _, i := range f.links {
		belongs[i] = true
	}
	var l []Loop
	for i, link := range f.Links {
		if belongs[i] {
			continue
		}
		steps := append([]Step{{i, true}}, f.path(link.To, link.From)...)
		l = append(l, Loop{steps, f.sum(steps)})
	}
	return l
}
