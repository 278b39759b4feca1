package console

import (
	"slices"
	"strconv"

	"dowel/api"
	"dowel/dimension"
	"dowel/document"
	"dowel/inspection"
	"dowel/label"
	"dowel/piecewise"
)

func (c *Console) worst(x *exchange) api.Errno {
	gap, _, _, e := document.ParseExpr(c.product.Dimensions, x.rest)
	if e != api.OK {
		return e
	}
	least, e := piecewise.Least(c.problem(), gap)
	if e != api.OK {
		return e
	}
	greatest, e := piecewise.Greatest(c.problem(), gap)
	if e != api.OK {
		return e
	}
	x.extent(least.Value, greatest.Value)
	return api.OK
}

// requirement takes the name of a requirement, to the end of the line.
func (c *Console) requirement(x *exchange) (api.Requirement, api.Errno) {
	name := x.name()
	if e := x.end(); e != api.OK {
		return api.Requirement{}, e
	}
	at := slices.IndexFunc(c.product.Requirements, func(r api.Requirement) bool { return r.Name == name })
	if at < 0 {
		return api.Requirement{}, api.ErrNotFound
	}
	return c.product.Requirements[at], api.OK
}

func (c *Console) need(x *exchange) api.Errno {
	r, e := c.requirement(x)
	if e != api.OK {
		return e
	}
	report, e := piecewise.Examine(c.problem(), r)
	if e != api.OK {
		return e
	}
	if !report.Met {
		x.add("not ")
	}
	x.add("met, ")
	x.extent(report.Least.Value, report.Greatest.Value)
	return api.OK
}

func (c *Console) measure(x *exchange) api.Errno {
	name := x.name()
	low, high := x.Int(-api.MaxLength, api.MaxLength), x.Int(-api.MaxLength, api.MaxLength)
	if e := x.end(); e != api.OK {
		return e
	}
	at, ok := dimension.Find(c.product.Dimensions, name)
	if !ok {
		return api.ErrNotFound
	}
	merged, e := inspection.Merge(c.problem(), c.measurements, []inspection.Measurement{{Dimension: at, Low: low, High: high}})
	if e != api.OK {
		return e
	}
	c.measurements = merged
	for _, m := range merged {
		if m.Dimension == at {
			x.add(label.Text(name), " from ", strconv.Itoa(m.Low), " to ", strconv.Itoa(m.High))
		}
	}
	return api.OK
}

func (c *Console) judge(x *exchange) api.Errno {
	r, e := c.requirement(x)
	if e != api.OK {
		return e
	}
	v, e := inspection.Judge(c.problem(), c.measurements, r)
	if e != api.OK {
		return e
	}
	switch v.Status {
	case inspection.Met:
		x.add("met, ")
	case inspection.Violated:
		x.add("violated, ")
	default:
		x.add("open, ")
	}
	x.extent(v.Report.Least.Value, v.Report.Greatest.Value)
	return api.OK
}

func (c *Console) next(x *exchange) api.Errno {
	if e := x.end(); e != api.OK {
		return e
	}
	isNoForm := func(r api.Requirement) bool { return r.Gap.Op != api.OpForm }
	forms := slices.DeleteFunc(slices.Clone(c.product.Requirements), isNoForm)
	at, found, e := inspection.Next(c.problem(), c.measurements, forms)
	if e != api.OK {
		return e
	}
	if found {
		x.add("measure ", label.Text(c.product.Dimensions[at].Name))
	} else {
		x.add("nothing to measure")
	}
	return api.OK
}

func (c *Console) forget(x *exchange) api.Errno {
	if e := x.end(); e != api.OK {
		return e
	}
	x.add(strconv.Itoa(len(c.measurements)), " forgotten")
	c.measurements = nil
	return api.OK
}
