package plan

import (
	"math/bits"
	"slices"

	"dowel/api"
	"dowel/integer"
	"dowel/rational"
)

// set is a set of instances, as bits.
type set uint

func of(l []int) set {
	var s set
	for _, i := range l {
		s |= 1 << i
	}
	return s
}

// full returns the set of so many instances.
func full(n int) set { return 1<<n - 1 }

func (s set) size() int { return bits.OnesCount(uint(s)) }

// list returns the instances of a set in increasing order.
func (s set) list() []int {
	l := make([]int, 0, s.size())
	for ; s != 0; s &= s - 1 {
		l = append(l, bits.TrailingZeros(uint(s)))
	}
	return l
}

// CheckDirection returns OK for a direction.
func CheckDirection(d api.Point) api.Errno {
	l, e := rational.Parses(d[:])
	if e != api.OK {
		return e
	}
	one := integer.From(1)
	if slices.ContainsFunc(l, func(x rational.Rat) bool { return integer.Compare(x.Den(), one) != 0 }) {
		return api.ErrForm
	}
	var divisor integer.Int
	for _, x := range l {
		divisor = integer.Gcd(divisor, x.Num())
	}
	if divisor.Sign() == 0 {
		return api.ErrZero
	}
	if integer.Compare(divisor, one) != 0 {
		return api.ErrForm
	}
	return api.OK
}

// CheckKind returns OK for a valid kind.
func CheckKind(k api.Kind) api.Errno {
	if k.Blocking != api.Far && k.Blocking != api.Local {
		return api.ErrKind
	}
	if len(k.Directions) > api.MaxDirections {
		return api.ErrLimit
	}
	for i, d := range k.Directions {
		if e := CheckDirection(d); e != api.OK {
			return e
		}
		if slices.Contains(k.Directions[:i], d) {
			return api.ErrDuplicate
		}
	}
	return api.OK
}

// CheckSet returns OK for a set of n instances.
func CheckSet(l []int, n int) api.Errno {
	if len(l) == 0 {
		return api.ErrEmpty
	}
	for i, k := range l {
		if k < 0 || k >= n {
			return api.ErrRange
		}
		if i > 0 && l[i-1] >= k {
			return api.ErrOrder
		}
	}
	return api.OK
}

// Check returns OK for a valid plan for n instances.
func Check(p api.Plan, n int) api.Errno {
	if n < 1 || n > api.MaxInstances {
		return api.ErrRange
	}
	if e := CheckKind(p.Kind); e != api.OK {
		return e
	}
	switch {
	case p.Most < 0 || p.Most > api.MaxInstances:
		return api.ErrRange
	case len(p.Steps) > 0 && len(p.Splits) > 0:
		return api.ErrConflict
	case len(p.Steps) > api.MaxSteps || len(p.Splits) > api.MaxInstances:
		return api.ErrLimit
	}
	if e := checkSteps(p, n); e != api.OK {
		return e
	}
	return checkSplits(p, n)
}

func checkSteps(p api.Plan, n int) api.Errno {
	rest := full(n)
	for _, s := range p.Steps {
		if e := CheckSet(s.Moved, n); e != api.OK {
			return e
		}
		if of(s.Moved)&^rest != 0 {
			return api.ErrNotFound
		}
		if of(s.Moved) == rest {
			return api.ErrConflict
		}
		if e := checkMove(p, s.Moved, s.Direction); e != api.OK {
			return e
		}
		if s.Distance == "" {
			rest &^= of(s.Moved)
			continue
		}
		x, e := rational.Parse(s.Distance)
		if e != api.OK {
			return e
		}
		if x.Sign() <= 0 {
			return api.ErrRange
		}
	}
	return api.OK
}

// checkMove returns the errors that steps and splits share.
func checkMove(p api.Plan, moved []int, direction api.Point) api.Errno {
	if p.Most > 0 && len(moved) > p.Most {
		return api.ErrLimit
	}
	if e := CheckDirection(direction); e != api.OK {
		return e
	}
	if len(p.Kind.Directions) > 0 && !slices.Contains(p.Kind.Directions, direction) {
		return api.ErrUnknown
	}
	return api.OK
}

func checkSplits(p api.Plan, n int) api.Errno {
	open := []set{full(n)}
	for _, s := range p.Splits {
		if e := CheckSet(s.Whole, n); e != api.OK {
			return e
		}
		if e := CheckSet(s.Moved, n); e != api.OK {
			return e
		}
		whole, moved := of(s.Whole), of(s.Moved)
		at := slices.Index(open, whole)
		if at < 0 {
			return api.ErrNotFound
		}
		if moved&^whole != 0 || moved == whole {
			return api.ErrConflict
		}
		if e := checkMove(p, s.Moved, s.Direction); e != api.OK {
			return e
		}
		open = slices.Delete(open, at, at+1)
		for _, half := range []set{moved, whole &^ moved} {
			if half.size() > 1 {
				open = append(open, half)
			}
		}
	}
	return api.OK
}
