package eval

import (
	"maps"
	"math"
	"slices"

	"staddle/api"
)

// op evaluates two operands with a sign between.
func (m *machine) op(x *api.Expr, env *scope) *value {
	switch x.Text {
	case "&&":
		return truth(m.isTrue(&x.Kids[0], env) && m.isTrue(&x.Kids[1], env))
	case "||":
		return truth(m.isTrue(&x.Kids[0], env) || m.isTrue(&x.Kids[1], env))
	}
	left := m.eval(&x.Kids[0], env)
	right := m.eval(&x.Kids[1], env)
	switch x.Text {
	case "==":
		return truth(m.like(left, right))
	case "!=":
		return truth(!m.like(left, right))
	case "//":
		return over(left, right)
	case "++":
		must(left.kind == aList && right.kind == aList, api.ErrKind)
		return listOf(slices.Concat(left.list, right.list))
	case "<":
		return less(left, right)
	case "+":
		if left.kind != aNumber {
			j := joint{}
			j.add(m.plain(left))
			j.add(m.plain(right))
			return j.text()
		}
	}
	return reckoned(left, x.Text, right)
}

// over: a set with the names of another behind it; where both have a name it is the other's.
func over(left, right *value) *value {
	must(left.kind == aSet && right.kind == aSet, api.ErrKind)
	set := make(map[string]*part, len(left.set)+len(right.set))
	maps.Copy(set, left.set)
	maps.Copy(set, right.set)
	return setOf(set)
}

// less: is one ahead of the other?
func less(left, right *value) *value {
	must(left.kind == right.kind, api.ErrKind)
	if left.kind == aText {
		return truth(left.text < right.text)
	}
	must(left.kind == aNumber, api.ErrKind)
	return truth(left.n < right.n)
}

// reckoned: what +, - or * makes of two numbers.
func reckoned(left *value, sign string, right *value) *value {
	must(left.kind == aNumber && right.kind == aNumber, api.ErrKind)
	a, b := left.n, right.n
	var n int64
	var fits bool
	switch sign {
	case "+":
		n = a + b
		fits = (n < a) == (b < 0)
	case "-":
		n = a - b
		fits = (n > a) == (b < 0)
	case "*":
		n = a * b
		fits = a == 0 || n/a == b && (a != -1 || b != math.MinInt64)
	default:
		panic(fault{api.ErrForm})
	}
	must(fits, api.ErrRange)
	return number(n)
}

// like: are two values like?
func (m *machine) like(a, b *value) bool {
	m.enter()
	ok := m.alike(a, b)
	m.leave()
	return ok
}

// alike: are they, and are their parts?
func (m *machine) alike(a, b *value) bool {
	must(a.kind != aFunction && b.kind != aFunction, api.ErrKind)
	if a.kind != b.kind {
		return false
	}
	switch a.kind {
	case aNumber:
		return a.n == b.n
	case aText:
		return a.text == b.text
	case aTruth:
		return a.is == b.is
	case aList:
		return m.alikeParts(a.list, b.list)
	case aSet:
		names := namesOf(a.set)
		return slices.Equal(names, namesOf(b.set)) && m.alikeParts(partsOf(a, names), partsOf(b, names))
	}
	return true
}

// alikeParts: are there as many, and is each like its fellow? Behind the first that isn't none is needed.
func (m *machine) alikeParts(a, b []*part) bool {
	if len(a) != len(b) {
		return false
	}
	for i := range a {
		left := m.need(a[i])
		right := m.need(b[i])
		if !m.like(left, right) {
			return false
		}
	}
	return true
}

// partsOf: what a set's names are.
func partsOf(v *value, names []string) []*part {
	var l []*part
	for _, name := range names {
		l = append(l, v.set[name])
	}
	return l
}
