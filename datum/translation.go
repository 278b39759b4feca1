package datum

import (
	"strings"

	"dowel/api"
	"dowel/dimension"
	"dowel/rational"
)

// variable is the position, the size or the form of a feature.
type variable struct{ feature, kind int }

// translation is a valid scheme with its variables, in order, and the zones that belong to them.
type translation struct {
	Scheme
	variables []variable
	index     map[variable]int
	zones     map[variable]Zone
}

// open returns a valid scheme, or the error of Check.
func open(s Scheme) (*translation, api.Errno) {
	if e := Check(s); e != api.OK {
		return nil, e
	}
	t := &translation{s, nil, map[variable]int{}, map[variable]Zone{}}
	for _, z := range s.Zones {
		t.zones[variable{z.Feature, z.Kind}] = z
	}
	for i, f := range s.Features {
		t.add(variable{i, Position})
		if f.Kind == Slot {
			t.add(variable{i, Size})
		}
		if _, ok := t.zones[variable{i, Form}]; ok {
			t.add(variable{i, Form})
		}
	}
	return t, api.OK
}

func (t *translation) add(v variable) {
	t.index[v] = len(t.variables)
	t.variables = append(t.variables, v)
}

// zone returns the zone of a variable; one without any room, if it has none.
func (t *translation) zone(v variable) Zone { return t.zones[v] }

// nominal returns the nominal value of a variable.
func (t *translation) nominal(v variable) int {
	f := t.Features[v.feature]
	switch v.kind {
	case Position:
		return f.At
	case Size:
		return f.Wide
	}
	return 0
}

// name returns the name of a variable.
func (t *translation) name(v variable) string {
	var b strings.Builder
	b.WriteString(t.Features[v.feature].Name)
	switch v.kind {
	case Size:
		b.WriteString(".size")
	case Form:
		b.WriteString(".form")
	}
	return b.String()
}

// dimension returns a variable as a dimension. A bonus can make the zone wider by all that the size can be greater.
func (t *translation) dimension(v variable) api.Dimension {
	z := t.zone(v)
	d := api.Dimension{Name: t.name(v), Nominal: t.nominal(v), Lower: z.Lower, Upper: z.Upper}
	if z.Bonus {
		size := t.zone(variable{v.feature, Size})
		d.Lower -= size.Upper - size.Lower
		d.Upper += size.Upper - size.Lower
	}
	return d
}

// place returns the form of the place of a side.
func (t *translation) place(feature, side int) (api.Form, api.Errno) {
	isSlot := t.Features[feature].Kind == Slot
	if side < -1 || side > 1 || !isSlot && side != 0 {
		return api.Form{}, api.ErrRange
	}
	sum := api.Form{Constant: "0"}
	add := func(v variable, factor rational.Rat) {
		i, ok := t.index[v]
		if ok && factor.Sign() != 0 {
			sum = dimension.Add(sum, api.Form{Constant: "0", Terms: []api.Term{{Dimension: i, Factor: factor.Number()}}})
		}
	}
	for _, f := range chain(t.Scheme, feature) {
		add(variable{f, Position}, rational.From(1))
	}
	half, _ := rational.Div(rational.From(side), rational.From(2))
	add(variable{feature, Size}, half)
	add(variable{feature, Form}, rational.From(1))
	return sum, api.OK
}

// deviation returns a value of a variable less its nominal value.
func (t *translation) deviation(v variable, value rational.Rat) rational.Rat {
	return rational.Sub(value, rational.From(t.nominal(v)))
}

// keeps reports whether values of all variables keep a zone.
func (t *translation) keeps(z Zone, at []rational.Rat) bool {
	v := variable{z.Feature, z.Kind}
	deviation := t.deviation(v, at[t.index[v]])
	var bonus rational.Rat
	if z.Bonus {
		size := variable{z.Feature, Size}
		bonus = rational.Sub(t.deviation(size, at[t.index[size]]), rational.From(t.zone(size).Lower))
	}
	low, high := rational.Sub(rational.From(z.Lower), bonus), rational.Add(rational.From(z.Upper), bonus)
	return rational.Compare(low, deviation) <= 0 && rational.Compare(deviation, high) <= 0
}
