package eval

import (
	"strings"

	"staddle/api"
)

// outPath is the name of a set's text.
const outPath = "outPath"

// joint is texts that are put behind one another. How long that is, is asked with each, as all may be far too long.
type joint struct {
	between string
	l       []*value
	size    int
}

// add puts one more behind the others.
func (j *joint) add(v *value) {
	if len(j.l) > 0 {
		j.size += len(j.between)
	}
	j.size += len(v.text)
	must(j.size <= api.MaxString, api.ErrLong)
	j.l = append(j.l, v)
}

// text: all of them as one, their contexts together.
func (j *joint) text() *value {
	var l []string
	for _, v := range j.l {
		l = append(l, v.text)
	}
	return textOf(strings.Join(l, j.between), together(j.l...))
}

// put: the text of what is put into a string.
func (m *machine) put(v *value) *value {
	for v.kind == aSet {
		m.step()
		p, ok := v.set[outPath]
		must(ok, api.ErrKind)
		v = m.need(p)
	}
	if v.kind == aNumber {
		return digits(v.n)
	}
	must(v.kind == aText, api.ErrKind)
	return v
}

// plain: a text, or a set's text.
func (m *machine) plain(v *value) *value {
	must(v.kind == aText || v.kind == aSet, api.ErrKind)
	return m.put(v)
}

// toString: a value as a text.
func (m *machine) toString(v *value) *value {
	m.enter()
	text := m.told(v)
	m.leave()
	return text
}

// told: what toString is of a value.
func (m *machine) told(v *value) *value {
	switch v.kind {
	case aTruth:
		if v.is {
			return textOf("1", nil)
		}
		return textOf("", nil)
	case aNull:
		return textOf("", nil)
	case aList:
		j := joint{between: " "}
		for _, p := range v.list {
			j.add(m.toString(m.need(p)))
		}
		return j.text()
	}
	return m.put(v)
}

// show tells what a part is, behind what is told already.
func (m *machine) show(p *part) {
	v := m.need(p)
	m.enter()
	m.tell(v)
	m.leave()
	must(len(m.shown) <= api.MaxString, api.ErrLong)
}

// tell tells a value.
func (m *machine) tell(v *value) {
	switch v.kind {
	case aNumber:
		m.write(digits(v.n).text)
	case aText:
		m.write(quoted(v.text))
	case aTruth:
		if v.is {
			m.write("true")
		} else {
			m.write("false")
		}
	case aNull:
		m.write("null")
	case aList:
		m.write("[")
		for i, p := range v.list {
			m.between(i)
			m.show(p)
		}
		m.write("]")
	case aSet:
		m.write("{")
		for i, name := range namesOf(v.set) {
			m.between(i)
			m.write(name + " = ")
			m.show(v.set[name])
			m.write(";")
		}
		m.write("}")
	case aFunction:
		m.write("<fn>")
	}
}

// between tells the blank ahead of a part, but ahead of the first there is none.
func (m *machine) between(place int) {
	if place > 0 {
		m.write(" ")
	}
}

func (m *machine) write(s string) {
	m.shown = append(m.shown, s...)
}

const (
	meant = "\\\"\n\t$" // what stands behind a \ in what is shown
	signs = `\"nt$`     // by which sign each does
)

// quoted: a text in quotes.
func quoted(s string) string {
	text := []byte{'"'}
	for i := range len(s) {
		if n := strings.IndexByte(meant, s[i]); n >= 0 {
			text = append(text, '\\', signs[n])
		} else {
			text = append(text, s[i])
		}
	}
	return string(append(text, '"'))
}
