package variant

import (
	"dowel/api"
	"dowel/naming"
)

// Check returns OK for a valid family.
func Check(f Family) api.Errno {
	if len(f.Options) > MaxOptions || len(f.Rules) > MaxRules || len(f.Guards) > MaxRules || len(f.Overrides) > MaxRules {
		return api.ErrLimit
	}
	for i, name := range f.Options {
		if !naming.Is(name) {
			return api.ErrName
		}
		if i > 0 && f.Options[i-1] >= name {
			return api.ErrOrder
		}
	}
	earlier := naming.Set{}
	for _, r := range f.Rules {
		if e := earlier.Add(r.Name); e != api.OK {
			return e
		}
		if e := checkChoice(f, r.Any); e != api.OK {
			return e
		}
	}
	for _, g := range f.Guards {
		if g.Instance < 0 || g.Instance >= len(f.Base.Assembly.Instances) {
			return api.ErrNotFound
		}
		if e := checkChoice(f, g.All); e != api.OK {
			return e
		}
	}
	for _, o := range f.Overrides {
		if e := checkOverride(f, o); e != api.OK {
			return e
		}
	}
	return api.OK
}

func checkOverride(f Family, o Override) api.Errno {
	if e := checkChoice(f, o.All); e != api.OK {
		return e
	}
	if o.Dimension < 0 || o.Dimension >= len(f.Base.Dimensions) {
		return api.ErrNotFound
	}
	if o.To.Name != f.Base.Dimensions[o.Dimension].Name {
		return api.ErrConflict
	}
	return api.OK
}

// checkChoice returns the error of a choice.
func checkChoice(f Family, l []Literal) api.Errno {
	for i, x := range l {
		if x.Option < 0 || x.Option >= len(f.Options) {
			return api.ErrNotFound
		}
		if i > 0 && l[i-1].Option >= x.Option {
			return api.ErrOrder
		}
	}
	return api.OK
}

// checkBoth returns the error of a family, or of a choice.
func checkBoth(f Family, choice []Literal) api.Errno {
	if e := Check(f); e != api.OK {
		return e
	}
	return checkChoice(f, choice)
}
