package eval

import (
	"slices"

	"staddle/api"
	"staddle/naming"
)

// own is a function that is around all: its name, and how many arguments it takes.
type own struct {
	name string
	args int
}

var owns = [...]own{
	{"toString", 1},
	{"map", 2},
	{"length", 1},
	{"elemAt", 2},
	{"attrNames", 1},
	{"throw", 1},
	{"storePath", 1},
	{"isList", 1},
	{"derivation", 1},
}

// around: what names mean around all.
func around() *scope {
	names := map[string]*part{
		"true":  known(truth(true)),
		"false": known(truth(false)),
		"null":  known(&value{kind: aNull}),
	}
	for _, f := range owns {
		names[f.name] = known(functionOf(function{own: f}))
	}
	return &scope{names: names}
}

// apply: what a function is of an argument.
func (m *machine) apply(v *value, arg *part) *value {
	must(v.kind == aFunction, api.ErrKind)
	x := v.f.x
	if x == nil {
		return m.more(v.f, arg)
	}
	inner := &scope{outer: v.f.env}
	if x.Kind == api.EPat {
		m.match(x, inner, arg)
	} else {
		inner.names = map[string]*part{x.Text: arg}
	}
	return m.eval(&x.Kids[len(x.Kids)-1], inner)
}

// match gives the names of a pattern what they mean.
func (m *machine) match(x *api.Expr, inner *scope, arg *part) {
	set := m.needs(arg, aSet).set
	inner.names = map[string]*part{}
	taken := 0
	for i, name := range x.Names {
		p, ok := set[name]
		if ok {
			taken++
		} else {
			must(x.Has[i], api.ErrNone)
			p = &part{x: &x.Kids[i], env: inner}
		}
		inner.names[name] = p
	}
	must(x.Open || taken == len(set), api.ErrExists)
}

// needs: what a part is, which must be of a kind.
func (m *machine) needs(p *part, k kind) *value {
	v := m.need(p)
	must(v.kind == k, api.ErrKind)
	return v
}

// more: what a function that is around all is with an argument more.
func (m *machine) more(f *function, arg *part) *value {
	args := append(slices.Clone(f.args), arg)
	if len(args) < f.own.args {
		return functionOf(function{own: f.own, args: args})
	}
	last := args[len(args)-1]
	switch f.own.name {
	case "toString":
		return m.toString(m.need(last))
	case "map":
		return m.mapped(args[0], m.needs(last, aList).list)
	case "length":
		return number(int64(len(m.needs(last, aList).list)))
	case "elemAt":
		list := m.needs(args[0], aList).list
		n := m.needs(last, aNumber).n
		must(n >= 0 && n < int64(len(list)), api.ErrNone)
		return m.need(list[n])
	case "attrNames":
		return textsOf(namesOf(m.needs(last, aSet).set))
	case "throw":
		m.needs(last, aText)
		panic(fault{api.ErrThrow})
	case "storePath":
		text := m.needs(last, aText).text
		must(naming.Is(text), api.ErrText)
		return textOf(text, context{text: {}})
	case "isList":
		return truth(m.need(last).kind == aList)
	}
	return m.derivation(m.needs(last, aSet).set)
}

// mapped: a function of each part of a list.
func (m *machine) mapped(f *part, list []*part) *value {
	block := make([]part, len(list))
	parts := make([]*part, len(list))
	for i, of := range list {
		m.step()
		block[i] = part{f: f, of: of}
		parts[i] = &block[i]
	}
	return listOf(parts)
}

// textsOf: texts as a list.
func textsOf(l []string) *value {
	var parts []*part
	for _, s := range l {
		parts = append(parts, known(textOf(s, nil)))
	}
	return listOf(parts)
}
