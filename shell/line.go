package shell

import (
	"strconv"
	"strings"

	"staddle/api"
	"staddle/base"
	"staddle/manage"
)

// part is what an event has of a word of its line.
type part byte

const (
	asA    part = iota // as its first text
	asB                // as its other text
	asN                // a number
	asTree             // the bytes of a file
	asData             // bytes, in digits to the base 16
	asKeep             // which writes are kept: 0 or 1 for each
	asRest             // all that is left of the line, with its blanks, as A
)

// form is a line that asks something: its first word, what it asks, the event's number where no word tells it, and what the other words are.
type form struct {
	word  string
	kind  byte
	n     int
	parts []part
}

const (
	fuel      = 20000 // steps of an expression
	allBytes  = -1    // of what is collected
	noWrite   = -1    // is torn
	maxDigits = 9     // digits of a number
)

var forms = [...]form{
	{"eval", manage.Eval, fuel, []part{asRest}},
	{"make", manage.Make, fuel, []part{asRest}},
	{"build", manage.Build, 0, []part{asA}},
	{"file", manage.Tree, 0, []part{asA, asTree}},
	{"set", manage.Set, 0, []part{asA, asB}},
	{"switch", manage.Switch, 0, []part{asA, asN}},
	{"back", manage.Back, 0, []part{asA}},
	{"drop", manage.Drop, 0, []part{asA, asN}},
	{"old", manage.Old, 0, []part{asA}},
	{"root", manage.Root, 0, []part{asA, asB}},
	{"collect", manage.Collect, allBytes, []part{asA}},
	{"export", manage.Export, 0, []part{asA}},
	{"import", manage.Import, 0, []part{asData}},
	{"verify", manage.Verify, 0, []part{}},
	{"arm", manage.Arm, 0, []part{asN}},
	{"crash", manage.Crash, 0, []part{}},
	{"crash", manage.Crash, 0, []part{asKeep}},
}

// asked: what a line asks; false: it has none of the forms.
func asked(t string) (manage.Event, bool) {
	for _, f := range forms {
		if v, ok := f.event(t); ok {
			return v, true
		}
	}
	return manage.Event{}, false
}

// event: what a line asks if it has that form.
func (f form) event(t string) (manage.Event, bool) {
	// What is left behind the last blank that may stand there goes to the last part: that says whether there may be more of them.
	words := strings.SplitN(t, blank, 1+len(f.parts))
	if words[0] != f.word || len(words) <= len(f.parts) {
		return manage.Event{}, false
	}
	v := manage.Event{Kind: f.kind, N: f.n, Torn: noWrite}
	for i, p := range f.parts {
		if !p.take(&v, words[1+i]) {
			return manage.Event{}, false
		}
	}
	return v, true
}

// take: an event has what a word tells; false: it can't tell that.
func (p part) take(v *manage.Event, s string) bool {
	ok := true
	switch p {
	case asA:
		v.A, ok = word(s)
	case asB:
		v.B, ok = word(s)
	case asN:
		v.N, ok = number(s)
	case asTree:
		s, ok = word(s)
		v.Tree = api.Tree{Kind: api.File, Data: []byte(s)}
	case asData:
		v.Data, ok = read(s)
	case asKeep:
		v.Keep, ok = bits(s)
	case asRest:
		v.A = s
	}
	return ok
}

// word: one word; false: these are more.
func word(s string) (string, bool) {
	return s, !strings.Contains(s, blank)
}

// number: the number of some digits; false: these are none as a line has them.
func number(s string) (int, bool) {
	n, err := strconv.Atoi(s)
	if err != nil || n < 0 || len(s) > maxDigits || strconv.Itoa(n) != s {
		return 0, false
	}
	return n, true
}

// read: the bytes of some digits to the base 16; false: these are none.
func read(s string) ([]byte, bool) {
	p, e := base.ReadHex(s)
	return p, e == api.OK
}

// bits: true for each 1 of a word of 0 and 1; false behind it: it is no such word.
func bits(s string) ([]bool, bool) {
	var l []bool
	for i := range len(s) {
		if s[i] != '0' && s[i] != '1' {
			return nil, false
		}
		l = append(l, s[i] == '1')
	}
	return l, true
}
