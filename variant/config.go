package variant

import (
	"iter"
	"slices"

	"dowel/api"
)

// config is a configuration: the options that are on, as bits. The first option has the highest bit, so that configurations come in the order of falling numbers.
type config uint

func bit(option int) config { return 1 << (MaxOptions - 1 - option) }

func (c config) has(option int) bool { return c&bit(option) != 0 }

// holds reports whether all of some literals hold.
func (c config) holds(l ...Literal) bool {
	for _, x := range l {
		if c.has(x.Option) != x.On {
			return false
		}
	}
	return true
}

// satisfies reports whether one of the literals of a rule holds.
func (c config) satisfies(r Rule) bool {
	return slices.ContainsFunc(r.Any, func(x Literal) bool { return c.holds(x) })
}

// isAllowed reports whether a configuration satisfies all rules.
func (c config) isAllowed(rules []Rule) bool {
	return !slices.ContainsFunc(rules, func(r Rule) bool { return !c.satisfies(r) })
}

// each calls a function for each configuration of so many options, in order, until it returns false.
func each(options int, visit func(config) bool) {
	step := config(1) << (MaxOptions - options)
	for c := config(1) << MaxOptions; c > 0; {
		c -= step
		if !visit(c) {
			return
		}
	}
}

// allowed yields the configurations of a choice that are allowed, in order.
func allowed(f Family, choice []Literal) iter.Seq[config] {
	return func(yield func(config) bool) {
		each(len(f.Options), func(c config) bool {
			return !c.holds(choice...) || !c.isAllowed(f.Rules) || yield(c)
		})
	}
}

// Count returns the number of the allowed configurations of a choice.
func Count(f Family, choice []Literal) (int, api.Errno) {
	if e := checkBoth(f, choice); e != api.OK {
		return 0, e
	}
	count := 0
	for range allowed(f, choice) {
		count++
	}
	return count, api.OK
}

// First returns the first allowed configuration of a choice.
func First(f Family, choice []Literal) (on []string, found bool, e api.Errno) {
	if e := checkBoth(f, choice); e != api.OK {
		return nil, false, e
	}
	for c := range allowed(f, choice) {
		return names(f, c), true, api.OK
	}
	return nil, false, api.OK
}

// Forced returns the literals that hold in all allowed configurations of a choice.
func Forced(f Family, choice []Literal) ([]Literal, api.Errno) {
	if e := checkBoth(f, choice); e != api.OK {
		return nil, e
	}
	found := false
	always, never := ^config(0), ^config(0)
	for c := range allowed(f, choice) {
		found = true
		always, never = always&c, never&^c
	}
	if !found {
		return nil, api.ErrInfeasible
	}
	var l []Literal
	for i := range f.Options {
		if always.has(i) || never.has(i) {
			l = append(l, Literal{i, always.has(i)})
		}
	}
	return l, api.OK
}

// Conflict returns rules that no configuration of a choice satisfies together.
func Conflict(f Family, choice []Literal) (rules []int, found bool, e api.Errno) {
	if e := checkBoth(f, choice); e != api.OK {
		return nil, false, e
	}
	left := Family{Options: f.Options, Rules: slices.Clone(f.Rules)}
	if isPossible(left, choice) {
		return nil, false, api.OK
	}
	for i := range f.Rules {
		rule := left.Rules[len(rules)]
		left.Rules = slices.Delete(left.Rules, len(rules), len(rules)+1)
		if isPossible(left, choice) {
			left.Rules = slices.Insert(left.Rules, len(rules), rule)
			rules = append(rules, i)
		}
	}
	return rules, true, api.OK
}

// isPossible reports whether a configuration of a choice is allowed.
func isPossible(f Family, choice []Literal) bool {
	for range allowed(f, choice) {
		return true
	}
	return false
}

// Redundant returns the rules that follow from those before them.
func Redundant(f Family) ([]int, api.Errno) {
	if e := Check(f); e != api.OK {
		return nil, e
	}
	follows := slices.Repeat([]bool{true}, len(f.Rules))
	each(len(f.Options), func(c config) bool {
		for i, r := range f.Rules {
			if !c.satisfies(r) {
				follows[i] = false
				break
			}
		}
		return true
	})
	var l []int
	for i, is := range follows {
		if is {
			l = append(l, i)
		}
	}
	return l, api.OK
}
