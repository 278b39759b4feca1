package console

import (
	"slices"
	"strings"

	"dowel/api"
	"dowel/assembly"
	"dowel/label"
	"dowel/lexer"
)

// exchange is a line that is being read, and its answer.
type exchange struct {
	*lexer.Reader
	strings.Builder
	rest string // of the line, behind its first word
}

// end returns the first error of the reader, also if something follows.
func (x *exchange) end() api.Errno {
	x.Finish()
	_, _, e := x.Error()
	return e
}

// name takes a name.
func (x *exchange) name() string {
	if x.Peek().Kind == lexer.String {
		return x.Text()
	}
	return x.Name()
}

// names takes all names that follow.
func (x *exchange) names() []string {
	var l []string
	for x.Peek().Kind != lexer.End {
		l = append(l, x.name())
	}
	return l
}

// point takes three numbers in parentheses.
func (x *exchange) point() api.Point {
	var p api.Point
	for i, before := range []string{"(", ",", ","} {
		x.Expect(before)
		p[i] = x.Number()
	}
	x.Expect(")")
	return p
}

// count takes an integer that is not negative.
func (x *exchange) count() int { return x.Int(0, api.MaxSmall) }

// kind takes a kind of blocking.
func (x *exchange) kind() int {
	if x.Take("far") {
		return api.Far
	}
	x.Expect("local")
	return api.Local
}

// add adds words to the answer.
func (x *exchange) add(words ...string) {
	for _, s := range words {
		x.WriteString(s)
	}
}

// line begins a line of the answer.
func (x *exchange) line() {
	if x.Len() > 0 {
		x.add("\n")
	}
}

// instances adds the names of instances, with a separator before each one.
func (x *exchange) instances(a api.Assembly, l []int, separator string) {
	for _, i := range l {
		x.add(separator, label.Text(a.Instances[i].Name))
	}
}

// extent adds from where to where something is.
func (x *exchange) extent(low, high api.Number) {
	x.add("from ", string(low), " to ", string(high))
}

// find returns the instances with some names, in order.
func find(a api.Assembly, names []string) ([]int, api.Errno) {
	var l []int
	for _, name := range names {
		i, ok := assembly.Index(a, name)
		if !ok {
			return nil, api.ErrNotFound
		}
		l = append(l, i)
	}
	return l, api.OK
}

// findSet returns the instances with some names in increasing order, each once.
func findSet(a api.Assembly, names []string) ([]int, api.Errno) {
	l, e := find(a, names)
	slices.Sort(l)
	return slices.Compact(l), e
}

// all returns all instances.
func all(a api.Assembly) []int {
	l := make([]int, len(a.Instances))
	for i := range l {
		l[i] = i
	}
	return l
}
