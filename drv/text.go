package drv

import (
	"strings"

	"staddle/api"
)

const (
	opening = "Derive("
	closing = ")"
	quote   = `"`
	escape  = '\\'
	signs   = `\"nt`     // what may stand behind a \ in quotes
	meant   = "\\\"\n\t" // what these stand for, at the same places
)

// written: a derivation's text, with other texts in the place of Drvs.
func written(d api.Drv, drvs []string) string {
	parts := []string{quoted(d.Name), listed(drvs), listed(d.Sources), quoted(d.Recipe), quoted(d.Fixed)}
	return opening + strings.Join(parts, ",") + closing
}

// quoted: a text in quotes.
func quoted(s string) string {
	text := []byte(quote)
	for i := range len(s) {
		if n := strings.IndexByte(meant, s[i]); n >= 0 {
			text = append(text, escape, signs[n])
		} else {
			text = append(text, s[i])
		}
	}
	return string(text) + quote
}

// listed: texts as a list.
func listed(l []string) string {
	var parts []string
	for _, s := range l {
		parts = append(parts, quoted(s))
	}
	return "[" + strings.Join(parts, ",") + "]"
}

// reader goes through a derivation's text from the left. Once something has come that can't stand where it stands, it is bad, and what it tells means nothing.
type reader struct {
	rest string // what it has not come to yet
	bad  bool
}

// whole reads a derivation behind which nothing stands; whether it is right is not asked.
func (r *reader) whole() api.Drv {
	var d api.Drv
	r.skip(opening)
	d.Name = r.text()
	r.skip(",")
	d.Drvs = r.list()
	r.skip(",")
	d.Sources = r.list()
	r.skip(",")
	d.Recipe = r.text()
	r.skip(",")
	d.Fixed = r.text()
	r.skip(closing)
	if r.rest != "" {
		r.bad = true
	}
	return d
}

// took goes behind a sign, if it comes next; does it?
func (r *reader) took(sign string) bool {
	rest, ok := strings.CutPrefix(r.rest, sign)
	r.rest = rest
	return ok
}

// skip goes behind a sign that must come next.
func (r *reader) skip(sign string) {
	if !r.took(sign) {
		r.bad = true
	}
}

// list reads a list of texts. Of one that has too many for a derivation it keeps just enough to show that.
func (r *reader) list() []string {
	r.skip("[")
	if r.took("]") {
		return nil
	}
	var l []string
	for !r.bad {
		if s := r.text(); len(l) <= api.MaxInputs {
			l = append(l, s)
		}
		if r.took("]") {
			return l
		}
		r.skip(",")
	}
	return nil
}

// text reads a text in quotes.
func (r *reader) text() string {
	r.skip(quote)
	var text []byte
	for !r.bad && !r.took(quote) {
		text = append(text, r.next())
	}
	return string(text)
}

// next reads the next byte of a text in quotes: what stands for itself, or what stands behind a \ for another.
func (r *reader) next() byte {
	c := r.taken()
	if c != escape {
		return c
	}
	n := strings.IndexByte(signs, r.taken())
	if n < 0 {
		r.bad = true
		return 0
	}
	return meant[n]
}

// taken goes behind the next byte, which must be there.
func (r *reader) taken() byte {
	if r.rest == "" {
		r.bad = true
		return 0
	}
	c := r.rest[0]
	r.rest = r.rest[1:]
	return c
}
