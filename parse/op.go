package parse

import "staddle/api"

// sign is a sign between two operands: how strongly it holds them, and whether those of its strength go together from the right.
type sign struct {
	text     string
	strength int
	right    bool
}

// weakest is the least strength of a sign; what is no sign between operands has none.
const weakest = 1

var signs = [...]sign{
	{"||", weakest, false},
	{"&&", 2, false},
	{"==", 3, false},
	{"!=", 3, false},
	{"<", 4, false},
	{"//", 5, true},
	{"+", 6, false},
	{"-", 6, false},
	{"*", 7, false},
	{"++", 8, true},
}

// op reads operands, and the signs between them that are of this strength or a greater one.
func (p *parser) op(strength int) api.Expr {
	x := p.pre()
	for g := p.sign(); g.strength >= strength; g = p.sign() {
		place := p.take().At
		x = api.Expr{Kind: api.EOp, Text: g.text, Kids: []api.Expr{x, p.right(g)}, At: place}
	}
	return x
}

// sign: the sign between operands that the next token is, if it is one.
func (p *parser) sign() sign {
	for _, g := range signs {
		if p.stands(0, g.text) {
			return g
		}
	}
	return sign{}
}

// right reads the right operand of a sign.
func (p *parser) right(g sign) api.Expr {
	p.enter()
	defer p.leave()
	if g.right {
		return p.op(g.strength)
	}
	return p.op(g.strength + 1)
}

// pre reads an operand.
func (p *parser) pre() api.Expr {
	place := p.rest[0].At
	switch {
	case p.skip("!"):
		return p.behind(api.ENot, place)
	case p.skip("-"):
		return p.behind(api.ENeg, place)
	}
	x := p.sel()
	for p.isThing() {
		place := p.rest[0].At
		x = api.Expr{Kind: api.ECall, Kids: []api.Expr{x, p.sel()}, At: place}
	}
	return x
}

// behind reads what stands behind a ! or a -.
func (p *parser) behind(kind byte, place int) api.Expr {
	p.enter()
	defer p.leave()
	return api.Expr{Kind: kind, Kids: []api.Expr{p.pre()}, At: place}
}

// sel reads a thing, and what is taken of it.
func (p *parser) sel() api.Expr {
	x := p.thing()
	for p.stands(0, ".") {
		place := p.take().At
		x = api.Expr{Kind: api.ESel, Text: p.name().Text, Kids: []api.Expr{x}, At: place}
		if p.skip("or") {
			x.Kids = append(x.Kids, p.thing())
		}
	}
	return x
}
