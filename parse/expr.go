package parse

import "staddle/api"

// expr reads what the document calls an expr.
func (p *parser) expr() api.Expr {
	p.enter()
	defer p.leave()
	place := p.rest[0].At
	switch {
	case p.named(0) && p.stands(1, ":"):
		return p.function()
	case p.isPattern():
		return p.pattern()
	case p.skip("let"):
		return p.let(place)
	case p.skip("if"):
		return p.parts(api.EIf, place, "then", "else")
	case p.skip("with"):
		return p.parts(api.EWith, place, ";")
	case p.skip("assert"):
		return p.parts(api.EAssert, place, ";")
	}
	return p.op(weakest)
}

// isPattern: is the next token, where an expr begins, the { of a pattern?
func (p *parser) isPattern() bool {
	if !p.stands(0, "{") {
		return false
	}
	if p.named(1) {
		return p.stands(2, ",") || p.stands(2, "?") || p.stands(2, "}") && p.stands(3, ":")
	}
	return p.stands(1, "...") || p.stands(1, "}") && p.stands(2, ":")
}

// function reads a function of a name.
func (p *parser) function() api.Expr {
	t := p.name()
	p.need(":")
	return api.Expr{Kind: api.EFn, Text: t.Text, Kids: []api.Expr{p.expr()}, At: t.At}
}

// pattern reads a function of a pattern.
func (p *parser) pattern() api.Expr {
	x := api.Expr{Kind: api.EPat, At: p.take().At}
	if !p.skip("}") {
		p.args(&x)
		p.need("}")
	}
	p.need(":")
	x.Kids = append(x.Kids, p.expr())
	return x
}

// args reads the args of a pattern that has some.
func (p *parser) args(x *api.Expr) {
	for {
		if p.skip("...") {
			x.Open = true
			return
		}
		p.arg(x)
		if !p.skip(",") {
			return
		}
	}
}

// arg reads a name of a pattern, and what stands behind its ?.
func (p *parser) arg(x *api.Expr) {
	t := p.newName(x)
	if p.skip("?") {
		add(x, t.Text, true, p.expr())
	} else {
		add(x, t.Text, false, api.Expr{})
	}
}

// let reads a let from behind its word on.
func (p *parser) let(place int) api.Expr {
	x := api.Expr{Kind: api.ELet, At: place}
	p.binds(&x)
	p.need("in")
	x.Kids = append(x.Kids, p.expr())
	return x
}

// parts reads exprs between which these signs or words stand.
func (p *parser) parts(kind byte, place int, between ...string) api.Expr {
	x := api.Expr{Kind: kind, Kids: []api.Expr{p.expr()}, At: place}
	for _, text := range between {
		p.need(text)
		x.Kids = append(x.Kids, p.expr())
	}
	return x
}
