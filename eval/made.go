package eval

import (
	"staddle/api"
	"staddle/drv"
)

// The names of a derivation's set beside outPath.
const (
	nameOf   = "name"
	recipeOf = "recipe"
	fixedOf  = "fixed"
	typeOf   = "type"
	drvPath  = "drvPath"
)

// derivation makes the derivation of a set.
func (m *machine) derivation(set map[string]*part) *value {
	name := m.textIn(set, nameOf)
	recipe := m.textIn(set, recipeOf)
	fixed := textOf("", nil)
	if _, ok := set[fixedOf]; ok {
		fixed = m.textIn(set, fixedOf)
	}
	d := api.Drv{Name: name.text, Recipe: recipe.text, Fixed: fixed.text}
	var sums [][32]byte
	for _, path := range namesOf(together(name, recipe, fixed)) {
		if need, ok := m.made[path]; ok {
			d.Drvs = append(d.Drvs, path)
			sums = append(sums, need.Sum)
		} else {
			d.Sources = append(d.Sources, path)
		}
	}
	made := madeOf(d, sums)
	m.made[made.Path] = made
	from := context{made.Path: {}}
	return setOf(map[string]*part{
		typeOf:  known(textOf("derivation", nil)),
		nameOf:  known(textOf(d.Name, nil)),
		drvPath: known(textOf(made.Path, from)),
		outPath: known(textOf(made.Out, from)),
	})
}

// textIn: the text of what a set has by a name.
func (m *machine) textIn(set map[string]*part, name string) *value {
	p, ok := set[name]
	must(ok, api.ErrNone)
	return m.plain(m.need(p))
}

// madeOf: a derivation with what comes of it; sums has the digests of those that it needs.
func madeOf(d api.Drv, sums [][32]byte) Made {
	path, e := drv.Path(d)
	must(e == api.OK, e)
	sum, e := drv.Modulo(d, sums)
	must(e == api.OK, e)
	out, e := drv.Out(d, sums)
	must(e == api.OK, e)
	return Made{Path: path, Drv: d, Sum: sum, Out: out}
}
