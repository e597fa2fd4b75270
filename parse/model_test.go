package parse_test

import (
	"slices"
	"strconv"
	"strings"
	"testing"

	"staddle/api"
	"staddle/lex"
	"staddle/parse"
	"staddle/samples"
)

// A model of the grammar: a rule tells, of a place in a list of tokens, all places up to which it can go. It goes all ways at once, and so the farthest token that no way goes behind is the first one that can't stand where it stands. It knows neither depth nor names.
type rule func(m *model, i int) []int

type model struct {
	list []api.Token
	far  int
	done map[string]map[int][]int // what is known of each part of the grammar
}

// rules is the parts of the grammar that have been asked for.
var rules = map[string]rule{}

func (m *model) token(i int) (byte, string) {
	if i >= len(m.list) {
		return api.TEnd, ""
	}
	return m.list[i].Kind, m.list[i].Text
}

func kind(k byte) rule {
	return func(m *model, i int) []int {
		m.far = max(m.far, i)
		if got, _ := m.token(i); got == k && i < len(m.list) {
			return []int{i + 1}
		}
		return nil
	}
}

func text(s string) rule {
	return func(m *model, i int) []int {
		m.far = max(m.far, i)
		if k, got := m.token(i); got == s && (k == api.TSign || k == api.TWord) {
			return []int{i + 1}
		}
		return nil
	}
}

func seq(rules ...rule) rule {
	return func(m *model, i int) []int {
		at := []int{i}
		for _, r := range rules {
			var next []int
			for _, j := range at {
				next = append(next, r(m, j)...)
			}
			at = once(next)
		}
		return at
	}
}

func either(rules ...rule) rule {
	return func(m *model, i int) []int {
		var at []int
		for _, r := range rules {
			at = append(at, r(m, i)...)
		}
		return once(at)
	}
}

func maybe(rules ...rule) rule {
	return func(m *model, i int) []int { return once(append(seq(rules...)(m, i), i)) }
}

func many(rules ...rule) rule {
	return func(m *model, i int) []int {
		at := []int{i}
		for k := 0; k < len(at); k++ {
			for _, j := range seq(rules...)(m, at[k]) {
				if !slices.Contains(at, j) {
					at = append(at, j)
				}
			}
		}
		return once(at)
	}
}

func once(l []int) []int {
	slices.Sort(l)
	return slices.Compact(l)
}

// part is what the grammar says of a word of its own.
func part(name string) rule {
	return func(m *model, i int) []int {
		if m.done[name] == nil {
			m.done[name] = map[int][]int{}
		}
		l, ok := m.done[name][i]
		if !ok {
			if rules[name] == nil {
				rules[name] = grammar(name)
			}
			l = rules[name](m, i)
			m.done[name][i] = l
		}
		return l
	}
}

func grammar(name string) rule {
	expr, thing, pre, sel, bind := part("expr"), part("thing"), part("pre"), part("sel"), part("bind")
	switch name {
	case "expr":
		return func(m *model, i int) []int {
			if m.pattern(i) {
				return part("pattern")(m, i)
			}
			return part("other")(m, i)
		}
	case "pattern":
		arg := seq(kind(api.TName), maybe(text("?"), expr))
		// ... comes last, and once.
		args := either(seq(arg, many(text(","), arg), maybe(text(","), text("..."))), text("..."))
		return seq(text("{"), maybe(args), text("}"), text(":"), expr)
	case "other":
		return either(seq(kind(api.TName), text(":"), expr), seq(text("let"), many(bind), text("in"), expr), seq(text("if"), expr, text("then"), expr, text("else"), expr),
			seq(text("with"), expr, text(";"), expr), seq(text("assert"), expr, text(";"), expr), part("op"))
	case "bind":
		return either(seq(kind(api.TName), text("="), expr, text(";")), seq(text("inherit"), maybe(text("("), expr, text(")")), many(kind(api.TName)), text(";")))
	case "op":
		return seq(pre, many(either(text("||"), text("&&"), text("=="), text("!="), text("<"), text("//"), text("+"), text("-"), text("*"), text("++")), pre))
	case "pre":
		return either(seq(text("!"), pre), seq(text("-"), pre), seq(sel, many(sel)))
	case "sel":
		return seq(thing, many(text("."), kind(api.TName), maybe(text("or"), thing)))
	case "thing":
		quoted := seq(kind(api.TQuote), many(either(kind(api.TPart), seq(kind(api.TOpen), expr, kind(api.TClose)))), kind(api.TQuote))
		return either(kind(api.TNum), kind(api.TName), quoted, seq(text("("), expr, text(")")), seq(text("["), many(sel), text("]")), seq(maybe(text("rec")), text("{"), many(bind), text("}")))
	}
	return nil
}

// pattern: does a { that begins an expr begin a pattern?
func (m *model) pattern(i int) bool {
	shape := ""
	for j := i; j < i+4; j++ {
		k, s := m.token(j)
		switch {
		case k == api.TName:
			shape += "N "
		case k == api.TSign:
			shape += s + " "
		default:
			shape += "- "
		}
	}
	for _, s := range []string{"{ ... ", "{ } : ", "{ N , ", "{ N ? ", "{ N } : "} {
		if strings.HasPrefix(shape, s) {
			return true
		}
	}
	return false
}

// stand holds Parse of a text to the model, and tells whether the text is right.
func stand(t *testing.T, s string) bool {
	t.Helper()
	list, _, e := lex.Tokens(s)
	x, at, got := parse.Parse(s)
	if e != api.OK || got == api.ErrDeep || got == api.ErrExists {
		if told(x) != "-" {
			t.Fatalf("Parse(%q): an expression beside %d", s, got)
		}
		return false
	}
	m := &model{list: list, done: map[string]map[int][]int{}}
	good := len(seq(part("expr"), kind(api.TEnd))(m, 0)) > 0
	if good && (got != api.OK || at != 0 || x.Kind == 0) || !good && (got != api.ErrText || at != list[m.far].At || told(x) != "-") {
		t.Fatalf("Parse(%q) = %d, %d; the model: %v, %d", s, at, got, good, list[min(m.far, len(list)-1)].At)
	}
	return good
}

// bits is what texts are made of; N is a name that the text has not yet.
var bits = strings.Fields(`N N N N 1 "s" "${ }" ( ) [ ] { } { } ; ; : , ? = = . ... + - ! // || let in if then else with assert inherit rec or`)

func joined(l []string) string {
	l = slices.Clone(l)
	for i := range l {
		if l[i] == "N" {
			l[i] = "x" + strconv.Itoa(i)
		}
	}
	return strings.Join(l, " ")
}

// TestP9_1_AllShort holds all short texts to the model, each also behind what may stand ahead of it.
func TestP9_1_AllShort(t *testing.T) {
	l := slices.Clone(bits)
	slices.Sort(l)
	l = slices.Compact(l)
	for _, a := range l {
		for _, b := range l {
			for _, c := range l {
				stand(t, joined([]string{a, b, c}))
				stand(t, joined([]string{"{", a, b, c, ":", "1"}))
				stand(t, joined([]string{"{", a, b, c, "}"}))
			}
			for _, ahead := range []string{"", "( ", "[ ", "{ ", "{ q ? ", "{ q , ", "let ", "f ", "1 + ", "! ", "x: ", "q . r ", "q . r or ", "rec { ", "{ inherit ", "{ inherit ( q ) ", "if q ", "with q ", "\"${", "f { q ", "[ { q ", "{ q = 1 ; ", "{ q }", "{ ... ", "{ ... }"} {
				stand(t, ahead+joined([]string{a, b}))
			}
		}
	}
}

// TestP9_1_Model holds texts to the model that any tokens make, and texts that are right but for a few tokens.
func TestP9_1_Model(t *testing.T) {
	d := samples.Dice(9)
	for range 10000 {
		var l []string
		for range d.Roll(12) {
			l = append(l, bits[d.Roll(len(bits))])
		}
		stand(t, joined(l))
	}
	good := 0
	for range 3000 {
		g := generator{d: &d, budget: d.Roll(30), fresh: true}
		g.expr()
		if right := stand(t, g.s); right != (g.e == api.OK) {
			t.Fatalf("%q: %v, and not %d", g.s, right, g.e)
		}
		l, _, _ := lex.Tokens(g.s)
		for range 4 {
			if stand(t, changed(&d, g.s, l)) {
				good++
			}
		}
	}
	if good < 500 || good > 6000 {
		t.Errorf("%d of the texts are right", good)
	}
}

// changed is a text with one token gone, come or put in another's place.
func changed(d *samples.Dice, s string, l []api.Token) string {
	x := l[d.Roll(len(l))]
	bit := strings.ReplaceAll(bits[d.Roll(len(bits))], "N", "new"+strconv.Itoa(d.Roll(1000)))
	end := x.At + len(x.Text)
	if x.Kind == api.TPart {
		end = x.At
	}
	switch d.Roll(3) {
	case 0:
		return s[:x.At] + " " + s[end:]
	case 1:
		return s[:x.At] + " " + bit + " " + s[x.At:]
	}
	return s[:x.At] + " " + bit + " " + s[end:]
}

// generator makes texts, and beside each the expression that it is, or the fault that it has.
type generator struct {
	d      *samples.Dice
	s      string
	budget int  // about how many more things it makes
	fresh  bool // is every name another one?
	count  int

	open     int
	opened   bool // has something been opened that is too deep, behind the last token?
	place    int
	e        api.Errno
	inQuotes bool
}

// between writes blanks, or none where nothing needs them.
func (g *generator) between() {
	if g.inQuotes {
		return
	}
	g.s += []string{" ", " ", "\n", "\t ", " # c\n", "  "}[g.d.Roll(6)]
}

// fault is kept if it is the first.
func (g *generator) fault(e api.Errno) {
	if g.e == api.OK {
		g.place, g.e = len(g.s), e
	}
}

// put writes a token, and answers its place.
func (g *generator) put(s string) int {
	g.between()
	if g.opened {
		g.fault(api.ErrDeep)
	}
	g.s += s
	return len(g.s) - len(s)
}

// in makes what is open meanwhile.
func (g *generator) in(f func() api.Expr) api.Expr {
	g.open++
	g.opened = g.opened || g.open > api.MaxNest
	x := f()
	g.open--
	return x
}

func (g *generator) roll(n int) int {
	if g.budget <= 0 {
		return 0
	}
	return g.d.Roll(n)
}

// name is a name that may come again, where names may.
func (g *generator) name() string {
	g.count++
	if g.fresh || g.d.Roll(3) > 0 {
		return "v" + strconv.Itoa(g.count)
	}
	return []string{"a", "b'", "c-d", "_e"}[g.d.Roll(4)]
}

// bindName writes a name of a set, a let or a pattern.
func (g *generator) bindName(x *api.Expr) (string, int) {
	name := g.name()
	g.between()
	if slices.Contains(x.Names, name) {
		g.fault(api.ErrExists)
	}
	quotes := g.inQuotes
	g.inQuotes = true // there is something between already
	at := g.put(name)
	g.inQuotes = quotes
	return name, at
}

func (g *generator) expr() api.Expr {
	return g.in(func() api.Expr {
		g.budget--
		switch g.roll(16) {
		case 1, 2:
			name := g.name()
			at := g.put(name)
			g.put(":")
			return api.Expr{Kind: api.EFn, Text: name, Kids: []api.Expr{g.expr()}, At: at}
		case 3, 4:
			return g.pattern()
		case 5, 6:
			x := api.Expr{Kind: api.ELet, At: g.put("let")}
			g.binds(&x)
			g.put("in")
			x.Kids = append(x.Kids, g.expr())
			return x
		case 7:
			return g.words(api.EIf, "if", "then", "else")
		case 8:
			return g.words(api.EWith, "with", ";")
		case 9:
			return g.words(api.EAssert, "assert", ";")
		}
		return g.op(0)
	})
}

func (g *generator) words(kind byte, words ...string) api.Expr {
	x := api.Expr{Kind: kind, At: g.put(words[0])}
	x.Kids = append(x.Kids, g.expr())
	for _, word := range words[1:] {
		g.put(word)
		x.Kids = append(x.Kids, g.expr())
	}
	return x
}

func (g *generator) pattern() api.Expr {
	x := api.Expr{Kind: api.EPat, At: g.put("{")}
	n := g.roll(4)
	for i := range n {
		name, _ := g.bindName(&x)
		x.Names = append(x.Names, name)
		var kid api.Expr
		has := g.roll(3) == 1
		if has {
			g.put("?")
			kid = g.expr()
		}
		x.Has, x.Kids = append(x.Has, has), append(x.Kids, kid)
		if i < n-1 {
			g.put(",")
		}
	}
	if g.d.Roll(3) == 0 {
		if n > 0 {
			g.put(",")
		}
		g.put("...")
		x.Open = true
	}
	g.put("}")
	g.put(":")
	x.Kids = append(x.Kids, g.expr())
	return x
}

func (g *generator) binds(x *api.Expr) {
	for range g.roll(4) {
		switch g.roll(5) {
		case 1:
			g.put("inherit")
			for range g.d.Roll(3) {
				name, at := g.bindName(x)
				x.Names, x.Has, x.Kids = append(x.Names, name), append(x.Has, true), append(x.Kids, api.Expr{Kind: api.EName, Text: name, At: at})
			}
		case 2:
			g.put("inherit")
			g.put("(")
			from := g.expr()
			g.put(")")
			for range g.d.Roll(3) {
				name, at := g.bindName(x)
				x.Names, x.Has, x.Kids = append(x.Names, name), append(x.Has, false), append(x.Kids, api.Expr{Kind: api.ESel, Text: name, Kids: []api.Expr{from}, At: at})
			}
		default:
			name, _ := g.bindName(x)
			g.put("=")
			x.Names, x.Has = append(x.Names, name), append(x.Has, false)
			x.Kids = append(x.Kids, g.expr())
		}
		g.put(";")
	}
}

// op makes an operand, or a sign of this row of strengths, or of one behind it, between two.
func (g *generator) op(row int) api.Expr {
	if row >= len(strengths) || g.roll(2) == 0 {
		return g.pre()
	}
	row += g.d.Roll(len(strengths) - row)
	sign := strengths[row][g.d.Roll(len(strengths[row]))]
	left, right := row, row+1
	if sign == "//" || sign == "++" {
		left, right = row+1, row
	}
	a := g.op(left)
	at := g.put(sign)
	b := g.in(func() api.Expr { return g.op(right) })
	return api.Expr{Kind: api.EOp, Text: sign, Kids: []api.Expr{a, b}, At: at}
}

func (g *generator) pre() api.Expr {
	switch g.roll(8) {
	case 1:
		at := g.put("!")
		return api.Expr{Kind: api.ENot, Kids: []api.Expr{g.in(g.pre)}, At: at}
	case 2:
		at := g.put("-")
		return api.Expr{Kind: api.ENeg, Kids: []api.Expr{g.in(g.pre)}, At: at}
	}
	x, _ := g.sel()
	for range g.roll(4) / 2 {
		arg, at := g.sel()
		x = api.Expr{Kind: api.ECall, Kids: []api.Expr{x, arg}, At: at}
	}
	return x
}

// sel makes a thing and what is taken of it, and answers where it begins, too.
func (g *generator) sel() (api.Expr, int) {
	x, first := g.thing()
	for range g.roll(4) / 2 {
		at := g.put(".")
		name := g.name()
		g.put(name)
		x = api.Expr{Kind: api.ESel, Text: name, Kids: []api.Expr{x}, At: at}
		if g.roll(3) == 1 {
			g.put("or")
			kid, _ := g.thing()
			x.Kids = append(x.Kids, kid)
		}
	}
	return x, first
}

func (g *generator) thing() (api.Expr, int) {
	at := 0
	x := g.in(func() api.Expr {
		g.budget--
		x := api.Expr{}
		switch g.roll(9) {
		case 0, 1:
			n := g.d.Roll(1 << 20)
			at = g.put(strconv.Itoa(n))
			x = api.Expr{Kind: api.ENum, N: int64(n), At: at}
		case 2, 3:
			name := g.name()
			at = g.put(name)
			x = api.Expr{Kind: api.EName, Text: name, At: at}
		case 4:
			at = g.put("(")
			x = g.expr()
			g.put(")")
		case 5:
			at = g.put("[")
			x = api.Expr{Kind: api.EList, At: at}
			for range g.roll(4) {
				kid, _ := g.sel()
				x.Kids = append(x.Kids, kid)
			}
			g.put("]")
		case 6:
			at = g.put("{")
			x = api.Expr{Kind: api.ESet, At: at}
			g.setEnd(&x)
		case 7:
			at = g.put("rec")
			g.put("{")
			x = api.Expr{Kind: api.ERec, At: at}
			g.setEnd(&x)
		case 8:
			x = g.quoted()
			at = x.At
		}
		return x
	})
	return x, at
}

func (g *generator) setEnd(x *api.Expr) {
	g.binds(x)
	g.put("}")
}

// quoted makes a string.
func (g *generator) quoted() api.Expr {
	x := api.Expr{Kind: api.EStr, At: g.put(`"`)}
	g.inQuotes = true
	part := false
	for range g.roll(4) {
		if !part && g.d.Roll(2) == 0 {
			part = true
			n := g.d.Roll(4)
			at := g.put([]string{`a b`, `\$\"`, `$x`, `\n}`}[n])
			x.Kids = append(x.Kids, api.Expr{Kind: api.EStr, Text: []string{"a b", `$"`, "$x", "\n}"}[n], At: at})
			continue
		}
		part = false
		g.put("${")
		g.inQuotes = false
		kid := g.expr()
		x.Kids = append(x.Kids, kid)
		g.put("}")
		g.inQuotes = true
	}
	g.put(`"`)
	g.inQuotes = false
	if len(x.Kids) == 1 && x.Kids[0].Kind == api.EStr && len(x.Kids[0].Kids) == 0 {
		x.Text, x.Kids = x.Kids[0].Text, nil
	}
	return x
}

// TestP9_1_Generated holds Parse to texts whose expressions, and faults, are known as they are made.
func TestP9_1_Generated(t *testing.T) {
	d := samples.Dice(91)
	var seen [len(kinds)]int
	var faults [20]int
	var look func(x api.Expr)
	look = func(x api.Expr) {
		seen[x.Kind]++
		for _, kid := range x.Kids {
			look(kid)
		}
	}
	for i := range 12000 {
		g := generator{d: &d, budget: d.Roll(40)}
		ahead := ""
		if i%2 == 1 {
			n := d.Roll(api.MaxNest)
			ahead = strings.Repeat("q:", n)
			g.s, g.open = ahead, n
		}
		want := g.expr()
		if len(g.s) > api.MaxSource {
			continue
		}
		x, at, e := parse.Parse(g.s)
		faults[e]++
		if g.e != api.OK {
			if told(x) != "-" || at != g.place || e != g.e {
				t.Fatalf("Parse(%q) = %d, %d, and not %d, %d", g.s, at, e, g.place, g.e)
			}
			continue
		}
		for range len(ahead) / 2 {
			if x.Kind != api.EFn || x.Text != "q" || len(x.Kids) != 1 {
				t.Fatalf("Parse(%q) begins with %s", g.s, told(x))
			}
			x = x.Kids[0]
		}
		if told(x) != told(want) || at != 0 || e != api.OK {
			t.Fatalf("Parse(%q) = %s, %d, %d, and not %s", g.s, told(x), at, e, told(want))
		}
		look(x)
	}
	for k, n := range seen {
		if n < 100 {
			t.Errorf("only %d expressions of kind %d", n, k)
		}
	}
	if faults[api.OK] < 1000 || faults[api.ErrDeep] < 1000 || faults[api.ErrExists] < 500 {
		t.Errorf("faults: %v", faults)
	}
}
