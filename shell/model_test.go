package shell_test

import (
	"encoding/hex"
	"regexp"
	"strconv"
	"strings"
	"testing"

	"staddle/api"
	"staddle/manage"
	"staddle/samples"
	"staddle/shell"
)

// second is a second reading of lines, for a store of its own.
type second struct {
	s *manage.Store
}

// A word, a number, and the shapes of lines.
const (
	aWord   = `([^ ]*)`
	aNumber = `(0|[1-9][0-9]{0,8})`
)

var shapes = []struct {
	shape string
	event func(s second, m []string) manage.Event
	told  func(r manage.Reply) string
}{
	{`eval (.*)`, func(_ second, m []string) manage.Event { return manage.Event{Kind: manage.Eval, A: m[1], N: 20000} }, text},
	{`make (.*)`, func(_ second, m []string) manage.Event { return manage.Event{Kind: manage.Make, A: m[1], N: 20000} }, func(r manage.Reply) string {
		for _, path := range r.List {
			r.Text += " " + path
		}
		return r.Text
	}},
	{`build ` + aWord, func(_ second, m []string) manage.Event { return manage.Event{Kind: manage.Build, A: m[1]} }, text},
	{`file ` + aWord + ` ` + aWord, func(_ second, m []string) manage.Event {
		return manage.Event{Kind: manage.Tree, A: m[1], Tree: samples.File(m[2])}
	}, text},
	{`set ` + aWord + ` ` + aWord, func(_ second, m []string) manage.Event { return manage.Event{Kind: manage.Set, A: m[1], B: m[2]} }, count},
	{`switch ` + aWord + ` ` + aNumber, func(_ second, m []string) manage.Event {
		return manage.Event{Kind: manage.Switch, A: m[1], N: number(m[2])}
	}, ok},
	{`back ` + aWord, func(_ second, m []string) manage.Event { return manage.Event{Kind: manage.Back, A: m[1]} }, count},
	{`drop ` + aWord + ` ` + aNumber, func(_ second, m []string) manage.Event {
		return manage.Event{Kind: manage.Drop, A: m[1], N: number(m[2])}
	}, ok},
	{`old ` + aWord, func(_ second, m []string) manage.Event { return manage.Event{Kind: manage.Old, A: m[1]} }, count},
	{`root ` + aWord + ` ` + aWord, func(_ second, m []string) manage.Event { return manage.Event{Kind: manage.Root, A: m[1], B: m[2]} }, ok},
	{`collect ` + aWord, func(_ second, m []string) manage.Event {
		return manage.Event{Kind: manage.Collect, A: m[1], N: -1}
	}, counted},
	{`verify`, func(_ second, m []string) manage.Event { return manage.Event{Kind: manage.Verify} }, counted},
	{`export ` + aWord, func(_ second, m []string) manage.Event { return manage.Event{Kind: manage.Export, A: m[1]} }, func(r manage.Reply) string {
		return hex.EncodeToString(r.Data)
	}},
	{`import ((?:[0-9a-f]{2})*)`, func(_ second, m []string) manage.Event {
		p, _ := hex.DecodeString(m[1])
		return manage.Event{Kind: manage.Import, Data: p}
	}, func(r manage.Reply) string { return strings.Join(r.List, " ") }},
	{`arm ` + aNumber, func(_ second, m []string) manage.Event { return manage.Event{Kind: manage.Arm, N: number(m[1])} }, ok},
	{`crash(?: ([01]*))?`, func(_ second, m []string) manage.Event {
		v := manage.Event{Kind: manage.Crash, Torn: -1, Cut: 77}
		for _, c := range m[1] {
			v.Keep = append(v.Keep, c == '1')
		}
		return v
	}, ok},
}

func text(r manage.Reply) string  { return r.Text }
func count(r manage.Reply) string { return strconv.Itoa(r.N) }
func ok(manage.Reply) string      { return "ok" }
func counted(r manage.Reply) string {
	return strings.Join(append([]string{strconv.Itoa(len(r.List))}, r.List...), " ")
}

func number(s string) int {
	n, _ := strconv.Atoi(s)
	return n
}

// answer: what a line must be answered, and which shape it has.
func (x second) answer(line string) (string, string) {
	if len(line) > api.MaxLine {
		return "error 2", "too long"
	}
	if line == "list" {
		if !x.s.Up() {
			return "error 14", "list"
		}
		return strings.Join(x.s.DB().List(), " "), "list"
	}
	for _, c := range shapes {
		m := regexp.MustCompile(`(?s)\A` + c.shape + `\z`).FindStringSubmatch(line)
		if m == nil {
			continue
		}
		name, _, _ := strings.Cut(line, " ")
		r := x.s.Do(c.event(x, m))
		if r.E != api.OK {
			return "error " + strconv.Itoa(int(r.E)), name
		}
		return c.told(r), name
	}
	return "error 4", "none"
}

// words is what else lines are made of.
var words = []string{
	"", "a", "x", "0", "1", "01", "-1", "999999999", "1000000000", "drvs", "none", "1101", "12", "00", "0g", "@out@", "list", "\x00", "\t", "1\n",
}

// parts is what lines are made of: their first word, and of each other word which sort it is: a name, a path, a number, what is kept, digits, writes, an expression.
var parts = []string{
	"eval e", "make e", "make e", "build p", "build p", "file n n", "set n p", "set n p", "set n p", "switch n i", "switch n i", "back n", "drop n i", "drop n i",
	"old n", "root n p", "root n ", "collect k", "verify", "export p", "import d", "arm i", "crash", "crash w", "list", "x", "",
}

// one: one of some words.
func one(dice *samples.Dice, l ...string) string {
	return l[dice.Roll(len(l))]
}

// word: a word of a sort, now and then another; known has paths and packs.
func word(dice *samples.Dice, sort string, known []string) string {
	any := append([]string{noPath}, known...)
	if dice.Roll(12) == 0 {
		return one(dice, words...)
	}
	switch sort {
	case "n":
		return one(dice, "p", "q", "p")
	case "p":
		return one(dice, any...)
	case "i":
		return strconv.Itoa(dice.Roll(6))
	case "k":
		return one(dice, "drvs", "outs", "both", "", "")
	case "d":
		return one(dice, append(any, aPack, aPack[2:], noPack)...)
	case "w":
		return one(dice, "", "0", "1", "0101", "11111111111111111111")
	case "e":
		return one(dice, "1 + 1", "[1 2]", "x", ")", "", " 1 ", aText, bText, "[("+aText+") ("+bText+")]",
			`(derivation { name = "c"; recipe = "write f ${`+aText+`}`+one(dice, any...)+`"; }).outPath`,
			`(derivation { name = "s"; recipe = "copy ${storePath "`+one(dice, any...)+`"} \"\" f"; }).drvPath`)
	}
	return sort
}

// line: any line, which most times is of one of the shapes.
func line(dice *samples.Dice, known []string) string {
	l := strings.Split(one(dice, parts...), " ")
	for i, sort := range l[1:] {
		l[1+i] = word(dice, sort, known)
	}
	switch dice.Roll(40) {
	case 0:
		l = append(l, one(dice, words...))
	case 1:
		l = l[:len(l)-1]
	case 2:
		l = append([]string{""}, l...)
	case 3:
		l = append(l, strings.Repeat(" ", api.MaxLine-50+dice.Roll(60)))
	}
	return strings.Join(l, " ")
}

// TestP23_1_AsTold holds lines to a second reading of them, at many lines, with falls between; and all of them as one text to P23.2.
func TestP23_1_AsTold(t *testing.T) {
	dice := samples.Dice(31)
	met := map[string]int{}
	for range 40 {
		sectors := 60 + dice.Roll(150)
		h := fresh(t, sectors)
		s, e := manage.New(sectors)
		is(t, "New", e, api.OK)
		var known, asked []string
		for range 250 {
			next := line(&dice, known)
			if !s.Up() && dice.Roll(6) == 0 {
				next = "crash"
			}
			want, shape := second{s}.answer(next)
			if got := h.Line(next); got != want {
				t.Fatalf("%q is answered %q, and not %q", next, got, want)
			}
			verdict := "ok"
			if strings.HasPrefix(want, "error") {
				verdict = want
			}
			met[shape+": "+verdict]++
			for word := range strings.FieldsSeq(want) {
				if len(word) > 33 && len(known) < 40 && word[0] != '"' {
					known = append(known, word)
				}
			}
			if !strings.Contains(next, "\n") {
				asked = append(asked, next)
			}
		}
		// Those lines that Run doesn't part: to it they are all answered as by one shell.
		h = fresh(t, sectors)
		var answers []string
		for _, next := range asked {
			answers = append(answers, h.Line(next))
		}
		runs(t, sectors, strings.Join(asked, "\n"), answers...)
	}
	for _, what := range []string{
		"too long: error 2", "none: error 4", "list: ok", "list: error 14", "eval: ok", "eval: error 4", "eval: error 9", "make: ok", "make: error 4", "make: error 9", "make: error 14",
		"build: ok", "build: error 4", "build: error 14", "file: ok", "file: error 4", "file: error 14", "set: ok", "set: error 9", "set: error 14",
		"switch: ok", "switch: error 9", "back: ok", "back: error 9", "back: error 6", "drop: ok", "drop: error 17", "old: ok", "old: error 6",
		"root: ok", "root: error 9", "root: error 6", "collect: ok", "collect: error 14", "verify: ok", "export: ok", "export: error 4",
		"import: ok", "import: error 3", "arm: ok", "crash: ok",
	} {
		if met[what] < 3 {
			t.Errorf("%s was met only %d times of %v", what, met[what], met)
		}
	}
}

// TestP1_Anything: no line panics, and each is answered.
func TestP1_Anything(t *testing.T) {
	dice := samples.Dice(37)
	h, zero := fresh(t, 80), &shell.Shell{}
	for range 4000 {
		next := line(&dice, []string{aSrc, aDrv, aPath, noPath, aPack})
		if p := []byte(next); len(p) > 0 && dice.Roll(3) == 0 {
			p[dice.Roll(len(p))] = byte(dice.Roll(256))
			next = string(p)
		}
		if dice.Roll(10) == 0 {
			next = string(dice.Bytes(dice.Roll(60)))
		}
		h.Line(next)
		zero.Line(next)
	}
	h.Line("crash")
	says(t, h, "verify", "0")
}

// TestP2_Same: the same lines have the same answers.
func TestP2_Same(t *testing.T) {
	dice := samples.Dice(41)
	for range 20 {
		var asked []string
		for range 100 {
			asked = append(asked, line(&dice, []string{aSrc, aDrv, aPath, bDrv, aPack}))
		}
		first, e := shell.Run(100, strings.Join(asked, "\n"))
		is(t, "Run", e, api.OK)
		runs(t, 100, strings.Join(asked, "\n"), first...)
	}
}
