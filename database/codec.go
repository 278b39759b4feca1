package database

import (
	"dowel/api"
	"dowel/revision"
)

// codec writes values, or reads them: so both go through the same fields in the same order.
type codec struct {
	isReading bool
	written   []byte
	left      string // to be read
	isWrong   bool   // what was read has another form
}

// encode returns the text of a change.
func encode(x change) string {
	c := &codec{}
	c.change(&x)
	return string(c.written)
}

// decode returns the change with a text.
func decode(text string) (x change, ok bool) {
	c := &codec{isReading: true, left: text}
	c.change(&x)
	if c.isWrong || c.left != "" {
		return change{}, false
	}
	return x, true
}

// size writes or reads a number that is not negative, seven bits in each byte, the least ones first.
func (c *codec) size(n *uint) {
	if !c.isReading {
		rest := *n
		for ; rest >= 128; rest >>= 7 {
			c.written = append(c.written, byte(rest)|128)
		}
		c.written = append(c.written, byte(rest))
		return
	}
	*n = 0
	for shift := 0; ; shift += 7 {
		if c.left == "" || shift > 63 {
			c.isWrong = true
			return
		}
		b := c.left[0]
		c.left = c.left[1:]
		*n |= uint(b&127) << shift
		if b < 128 {
			return
		}
	}
}

// number writes or reads an int, so that small magnitudes are short.
func (c *codec) number(n *int) {
	u := uint(*n)<<1 ^ uint(*n>>63)
	c.size(&u)
	if c.isReading {
		*n = int(u>>1) ^ -int(u&1)
	}
}

// text writes or reads a string.
func text[S ~string](c *codec, s *S) {
	n := uint(len(*s))
	c.size(&n)
	if !c.isReading {
		c.written = append(c.written, *s...)
		return
	}
	if c.isWrong || n > uint(len(c.left)) {
		c.isWrong = true
		return
	}
	*s, c.left = S(c.left[:n]), c.left[n:]
}

// list writes or reads a list, whose elements a function writes or reads.
func list[T any](c *codec, l *[]T, one func(*T)) {
	n := uint(len(*l))
	c.size(&n)
	if !c.isReading {
		for i := range *l {
			one(&(*l)[i])
		}
		return
	}
	*l = nil
	for range n {
		if c.isWrong {
			return
		}
		var x T
		one(&x)
		*l = append(*l, x)
	}
}

func (c *codec) change(x *change) {
	c.number(&x.kind)
	text(c, &x.product)
	switch x.kind {
	case create:
		c.product(&x.created)
	case edit:
		list(c, &x.edits, c.edit)
	case mark:
		text(c, &x.tag.Name)
		c.number(&x.tag.Number)
	case keep:
		text(c, &x.result.Name)
		text(c, &x.result.Text)
		list(c, &x.result.Reads, c.version)
	default:
		c.isWrong = true
	}
}

func (c *codec) version(v *revision.Version) {
	c.key(&v.Key)
	c.number(&v.Number)
}

func (c *codec) key(k *revision.Key) {
	c.number(&k.Kind)
	text(c, &k.Name)
}

func (c *codec) edit(x *revision.Edit) {
	c.number(&x.Op)
	c.number(&x.At)
	c.key(&x.Item.Key)
	if x.Op != revision.Put {
		return
	}
	switch x.Item.Key.Kind {
	case revision.Part:
		c.part(&x.Item.Part)
	case revision.Instance:
		c.instance(&x.Item.Instance)
	case revision.Dimension:
		c.dimension(&x.Item.Dimension)
	case revision.Constraint:
		c.constraint(&x.Item.Constraint)
	case revision.Requirement:
		c.requirement(&x.Item.Requirement)
	}
}

func (c *codec) product(p *api.Product) {
	text(c, &p.Name)
	list(c, &p.Assembly.Parts, c.part)
	list(c, &p.Assembly.Instances, c.instance)
	list(c, &p.Dimensions, c.dimension)
	list(c, &p.Constraints, c.constraint)
	list(c, &p.Requirements, c.requirement)
}

func (c *codec) part(p *api.Part) {
	text(c, &p.Name)
	c.number(&p.Density)
	list(c, &p.Cells, func(x *api.Cell) {
		list(c, &x.Vertices, func(v *api.Vector) {
			for i := range v {
				c.number(&v[i])
			}
		})
	})
}

func (c *codec) instance(x *api.Instance) {
	text(c, &x.Name)
	text(c, &x.Part)
	for i := range x.Place.Turn {
		c.number(&x.Place.Turn[i])
	}
	for i := range x.Place.Shift {
		text(c, &x.Place.Shift[i])
	}
}

func (c *codec) dimension(d *api.Dimension) {
	text(c, &d.Name)
	c.number(&d.Nominal)
	c.number(&d.Lower)
	c.number(&d.Upper)
}

func (c *codec) form(f *api.Form) {
	text(c, &f.Constant)
	list(c, &f.Terms, func(t *api.Term) {
		c.number(&t.Dimension)
		text(c, &t.Factor)
	})
}

func (c *codec) constraint(x *api.Constraint) {
	text(c, &x.Name)
	c.form(&x.Form)
}

func (c *codec) expr(x *api.Expr) {
	c.number(&x.Op)
	c.form(&x.Form)
	text(c, &x.Factor)
	list(c, &x.Args, c.expr)
}

func (c *codec) requirement(r *api.Requirement) {
	text(c, &r.Name)
	c.expr(&r.Gap)
	text(c, &r.Low)
	text(c, &r.High)
}
