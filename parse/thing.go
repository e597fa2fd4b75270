package parse

import (
	"slices"
	"strconv"

	"staddle/api"
)

// isThing: can the next token begin a thing?
func (p *parser) isThing() bool {
	switch p.rest[0].Kind {
	case api.TNum, api.TName, api.TQuote:
		return true
	}
	return p.stands(0, "(") || p.stands(0, "[") || p.stands(0, "{") || p.stands(0, "rec")
}

// thing reads a thing.
func (p *parser) thing() api.Expr {
	p.enter()
	defer p.leave()
	if !p.isThing() {
		p.giveUp(api.ErrText)
	}
	t := p.take()
	switch t.Kind {
	case api.TNum:
		n, _ := strconv.ParseInt(t.Text, 10, 64) // the lexer lets no greater one through
		return api.Expr{Kind: api.ENum, N: n, At: t.At}
	case api.TName:
		return api.Expr{Kind: api.EName, Text: t.Text, At: t.At}
	case api.TQuote:
		return p.text(t.At)
	}
	switch t.Text {
	case "(":
		x := p.expr()
		p.need(")")
		return x
	case "[":
		return p.list(t.At)
	case "rec":
		p.need("{")
		return p.set(api.ERec, t.At)
	}
	return p.set(api.ESet, t.At)
}

// text reads a string from behind its first quote on.
func (p *parser) text(place int) api.Expr {
	x := api.Expr{Kind: api.EStr, At: place}
	for {
		switch t := p.take(); t.Kind {
		case api.TPart:
			x.Kids = append(x.Kids, api.Expr{Kind: api.EStr, Text: t.Text, At: t.At})
		case api.TOpen:
			x.Kids = append(x.Kids, p.expr())
			if p.rest[0].Kind != api.TClose {
				p.giveUp(api.ErrText)
			}
			p.take()
		default:
			return plain(x)
		}
	}
}

// plain: a string; where nothing but one text is in it, it is that text.
func plain(x api.Expr) api.Expr {
	if len(x.Kids) == 1 && x.Kids[0].Kind == api.EStr && len(x.Kids[0].Kids) == 0 {
		x.Text, x.Kids = x.Kids[0].Text, nil
	}
	return x
}

// list reads a list from behind its [ on.
func (p *parser) list(place int) api.Expr {
	x := api.Expr{Kind: api.EList, At: place}
	for p.isThing() {
		x.Kids = append(x.Kids, p.sel())
	}
	p.need("]")
	return x
}

// set reads a set from behind its { on.
func (p *parser) set(kind byte, place int) api.Expr {
	x := api.Expr{Kind: kind, At: place}
	p.binds(&x)
	p.need("}")
	return x
}

// binds reads the binds of a set or of a let, as many as there are.
func (p *parser) binds(x *api.Expr) {
	for {
		switch {
		case p.named(0):
			p.bind(x)
		case p.skip("inherit"):
			p.inherit(x)
		default:
			return
		}
	}
}

// bind reads a name and what it is.
func (p *parser) bind(x *api.Expr) {
	t := p.newName(x)
	p.need("=")
	add(x, t.Text, false, p.expr())
	p.need(";")
}

// inherit reads the names of an inherit from behind its word on.
func (p *parser) inherit(x *api.Expr) {
	var from []api.Expr // what stands in brackets
	if p.skip("(") {
		from = []api.Expr{p.expr()}
		p.need(")")
	}
	bare := from == nil
	for p.named(0) {
		t := p.newName(x)
		if bare {
			add(x, t.Text, true, api.Expr{Kind: api.EName, Text: t.Text, At: t.At})
			continue
		}
		add(x, t.Text, false, api.Expr{Kind: api.ESel, Text: t.Text, Kids: from, At: t.At})
		if p.named(0) {
			from = p.copies(from)
		}
	}
	p.need(";")
}

// copies: the same expressions in lists of their own. Copies of copies may be more than any memory holds: behind the bound of what is promised, they share.
func (p *parser) copies(l []api.Expr) []api.Expr {
	if p.room < len(l) {
		return l
	}
	p.room -= len(l)
	l = slices.Clone(l)
	for i := range l {
		x := &l[i]
		x.Names, x.Has, x.Kids = slices.Clone(x.Names), slices.Clone(x.Has), p.copies(x.Kids)
	}
	return l
}
