package eval

import (
	"maps"
	"slices"
	"strconv"

	"staddle/api"
)

// kind is of which kind a value is.
type kind byte

const (
	aNumber kind = iota
	aText
	aTruth
	aNull
	aList
	aSet
	aFunction
)

// value is what an expression can be. None is changed once it is made.
type value struct {
	kind kind
	n    int64
	text string
	from context // of a text
	is   bool    // of true and false
	list []*part
	set  map[string]*part
	f    *function
}

// context is the paths that a text comes from.
type context map[string]struct{}

// part is what a name means, or what a list has. It is found when it is needed, once: what an expression is where names mean what env says, or what a function is of another part. While that is under way it has nothing.
type part struct {
	found *value
	x     *api.Expr
	env   *scope
	f, of *part
}

// scope is what names mean in an expression: those that it binds itself, or those that the set of a with has, and those around it.
type scope struct {
	outer *scope
	names map[string]*part
	with  *part
}

// function is an expression and what names mean there, or one of the functions that are around all, and the arguments that it has by now.
type function struct {
	x    *api.Expr
	env  *scope
	own  own
	args []*part
}

func number(n int64) *value             { return &value{kind: aNumber, n: n} }
func truth(is bool) *value              { return &value{kind: aTruth, is: is} }
func setOf(set map[string]*part) *value { return &value{kind: aSet, set: set} }
func functionOf(f function) *value      { return &value{kind: aFunction, f: &f} }
func known(v *value) *part              { return &part{found: v} }

// listOf: a list, if it has not too many parts.
func listOf(parts []*part) *value {
	must(len(parts) <= api.MaxItems, api.ErrLong)
	return &value{kind: aList, list: parts}
}

// textOf: a text, if it has not too many bytes.
func textOf(text string, from context) *value {
	must(len(text) <= api.MaxString, api.ErrLong)
	return &value{kind: aText, text: text, from: from}
}

// digits: a number as a text.
func digits(n int64) *value {
	return textOf(strconv.FormatInt(n, 10), nil)
}

// together: all paths of the contexts of texts.
func together(texts ...*value) context {
	from := context{}
	for _, v := range texts {
		maps.Copy(from, v.from)
	}
	return from
}

// later: what expressions are, once that is needed.
func later(l []api.Expr, env *scope) []*part {
	block := make([]part, len(l))
	parts := make([]*part, len(l))
	for i := range l {
		block[i] = part{x: &l[i], env: env}
		parts[i] = &block[i]
	}
	return parts
}

// namesOf: the names of a map, rising.
func namesOf[V any](m map[string]V) []string {
	names := make([]string, 0, len(m))
	for name := range m {
		names = append(names, name)
	}
	slices.Sort(names)
	return names
}
