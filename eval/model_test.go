package eval_test

import (
	"reflect"
	"slices"
	"strconv"
	"strings"
	"testing"

	"staddle/api"
	"staddle/drv"
	"staddle/eval"
	"staddle/naming"
	"staddle/parse"
	"staddle/samples"
)

// A second evaluator: what waits is handed down as a number, all names that are bound stand in one map, and functions are functions.
type model struct {
	fuel, steps int
	made        map[string]eval.Made
	told        strings.Builder
}

type mtext struct {
	s    string
	from []string
}

type (
	mlist []*thunk
	mset  map[string]*thunk
	mfn   func(waits int, arg *thunk) any
	mnull struct{}
)

// thunk is what is found once.
type thunk struct {
	find  func(waits int) any
	state int // 0: not needed yet, 1: under way, 2: found
	v     any
}

func (k *thunk) need(waits int) any {
	switch k.state {
	case 1:
		panic(api.ErrLoop)
	case 0:
		k.state = 1
		k.v = k.find(waits)
		k.state = 2
	}
	return k.v
}

func found(v any) *thunk { return &thunk{state: 2, v: v} }

// names is what names mean: those that are bound, and the sets of the withs, the innermost first.
type names struct {
	bound map[string]*thunk
	withs []*thunk
}

func (n names) with(l map[string]*thunk) names {
	all := map[string]*thunk{}
	for k, v := range n.bound {
		all[k] = v
	}
	for k, v := range l {
		all[k] = v
	}
	return names{all, n.withs}
}

func (m *model) step() {
	if m.steps++; m.steps > m.fuel {
		panic(api.ErrFuel)
	}
}

func (m *model) enter(waits int) int {
	m.step()
	if waits+1 > 200 {
		panic(api.ErrDeep)
	}
	return waits + 1
}

func (m *model) late(x api.Expr, n names) *thunk {
	return &thunk{find: func(waits int) any { return m.eval(x, n, waits) }}
}

// as is a value of a kind.
func as[T any](v any) T {
	x, ok := v.(T)
	if !ok {
		panic(api.ErrKind)
	}
	return x
}

func long(s string, from ...string) mtext {
	if len(s) > 65536 {
		panic(api.ErrLong)
	}
	slices.Sort(from)
	return mtext{s, slices.Compact(from)}
}

func (m *model) eval(x api.Expr, n names, waits int) any {
	waits = m.enter(waits)
	kid := func(i int) any { return m.eval(x.Kids[i], n, waits) }
	switch x.Kind {
	case api.ENum:
		return x.N
	case api.EStr:
		if len(x.Kids) == 0 {
			return mtext{s: x.Text}
		}
		s := ""
		var from []string
		for i := range x.Kids {
			text := m.put(kid(i), waits)
			s = long(s + text.s).s
			from = append(from, text.from...)
		}
		return long(s, from...)
	case api.EName:
		return m.mean(x.Text, n, waits).need(waits)
	case api.EList:
		l := mlist{}
		for _, k := range x.Kids {
			l = append(l, m.late(k, n))
		}
		return l
	case api.ESet:
		l := mset{}
		for i, k := range x.Kids {
			l[x.Names[i]] = m.late(k, n)
		}
		return l
	case api.ERec:
		return mset(m.rec(x, n))
	case api.ELet:
		return m.eval(x.Kids[len(x.Names)], n.with(m.rec(x, n)), waits)
	case api.ESel:
		if k, ok := as[mset](kid(0))[x.Text]; ok {
			return k.need(waits)
		}
		if len(x.Kids) == 1 {
			panic(api.ErrNone)
		}
		return kid(1)
	case api.ECall:
		f := as[mfn](kid(0))
		return f(waits, m.late(x.Kids[1], n))
	case api.EFn:
		return mfn(func(waits int, arg *thunk) any {
			return m.eval(x.Kids[0], n.with(map[string]*thunk{x.Text: arg}), waits)
		})
	case api.EPat:
		return m.pattern(x, n)
	case api.EIf:
		if as[bool](kid(0)) {
			return kid(1)
		}
		return kid(2)
	case api.EWith:
		return m.eval(x.Kids[1], names{n.bound, append([]*thunk{m.late(x.Kids[0], n)}, n.withs...)}, waits)
	case api.EAssert:
		if !as[bool](kid(0)) {
			panic(api.ErrThrow)
		}
		return kid(1)
	case api.ENot:
		return !as[bool](kid(0))
	case api.ENeg:
		return m.fit("-", 0, as[int64](kid(0)))
	}
	return m.op(x, kid, waits)
}

func (m *model) rec(x api.Expr, n names) map[string]*thunk {
	l := map[string]*thunk{}
	for i, name := range x.Names {
		l[name] = &thunk{find: func(waits int) any {
			if x.Has[i] {
				return m.eval(x.Kids[i], n, waits)
			}
			return m.eval(x.Kids[i], n.with(l), waits)
		}}
	}
	return l
}

func (m *model) pattern(x api.Expr, n names) mfn {
	return func(waits int, arg *thunk) any {
		set := as[mset](arg.need(waits))
		l := map[string]*thunk{}
		for i, name := range x.Names {
			if k, ok := set[name]; ok {
				l[name] = k
			} else if x.Has[i] {
				l[name] = &thunk{find: func(waits int) any { return m.eval(x.Kids[i], n.with(l), waits) }}
			} else {
				panic(api.ErrNone)
			}
		}
		for name := range set {
			if !x.Open && !slices.Contains(x.Names, name) {
				panic(api.ErrExists)
			}
		}
		return m.eval(x.Kids[len(x.Names)], n.with(l), waits)
	}
}

func (m *model) mean(name string, n names, waits int) *thunk {
	if k := n.bound[name]; k != nil {
		return k
	}
	for _, w := range n.withs {
		if k := as[mset](w.need(waits))[name]; k != nil {
			return k
		}
	}
	panic(api.ErrName)
}

func (m *model) op(x api.Expr, kid func(int) any, waits int) any {
	a := kid(0)
	if x.Text == "&&" || x.Text == "||" {
		if as[bool](a) == (x.Text == "||") {
			return a
		}
		return as[bool](kid(1))
	}
	b := kid(1)
	switch x.Text {
	case "==":
		return m.like(a, b, waits)
	case "!=":
		return !m.like(a, b, waits)
	case "++":
		l := append(slices.Clone(as[mlist](a)), as[mlist](b)...)
		if len(l) > 4096 {
			panic(api.ErrLong)
		}
		return l
	case "//":
		l := mset{}
		for k, v := range as[mset](a) {
			l[k] = v
		}
		for k, v := range as[mset](b) {
			l[k] = v
		}
		return l
	case "<":
		if s, ok := a.(mtext); ok {
			return s.s < as[mtext](b).s
		}
		return as[int64](a) < as[int64](b)
	}
	if _, ok := a.(int64); !ok && x.Text == "+" {
		s := m.text(a, waits)
		u := m.text(b, waits)
		return long(s.s+u.s, slices.Concat(s.from, u.from)...)
	}
	return m.fit(x.Text, as[int64](a), as[int64](b))
}

// fit reckons by halves, so that it sees what is beyond 64 bits.
func (m *model) fit(sign string, a, b int64) int64 {
	n, ok := new(bigger).reckon(sign, a, b)
	if !ok {
		panic(api.ErrRange)
	}
	return n
}

func (m *model) like(a, b any, waits int) bool {
	waits = m.enter(waits)
	_, f := a.(mfn)
	_, g := b.(mfn)
	if f || g {
		panic(api.ErrKind)
	}
	if reflect.TypeOf(a) != reflect.TypeOf(b) {
		return false
	}
	switch a := a.(type) {
	case mtext:
		return a.s == b.(mtext).s
	case mlist:
		if len(a) != len(b.(mlist)) {
			return false
		}
		for i := range a {
			u, v := a[i].need(waits), b.(mlist)[i]
			if !m.like(u, v.need(waits), waits) {
				return false
			}
		}
		return true
	case mset:
		l := sorted(a)
		if !slices.Equal(l, sorted(b.(mset))) {
			return false
		}
		for _, name := range l {
			u := a[name].need(waits)
			if !m.like(u, b.(mset)[name].need(waits), waits) {
				return false
			}
		}
		return true
	}
	return a == b
}

func sorted(s mset) []string {
	var l []string
	for name := range s {
		l = append(l, name)
	}
	slices.Sort(l)
	return l
}

// put is the text of a number, a text or a set.
func (m *model) put(v any, waits int) mtext {
	switch v := v.(type) {
	case int64:
		return mtext{s: strconv.FormatInt(v, 10)}
	case mset:
		m.step()
		if v["outPath"] == nil {
			panic(api.ErrKind)
		}
		return m.put(v["outPath"].need(waits), waits)
	}
	return as[mtext](v)
}

// text is that of a text or a set.
func (m *model) text(v any, waits int) mtext {
	if _, ok := v.(int64); ok {
		panic(api.ErrKind)
	}
	return m.put(v, waits)
}

func (m *model) toString(v any, waits int) mtext {
	waits = m.enter(waits)
	switch v := v.(type) {
	case bool:
		return mtext{s: map[bool]string{true: "1"}[v]}
	case mnull:
		return mtext{}
	case mlist:
		var l, from []string
		for _, k := range v {
			s := m.toString(k.need(waits), waits)
			l, from = append(l, s.s), append(from, s.from...)
			long(strings.Join(l, " "))
		}
		return long(strings.Join(l, " "), from...)
	}
	return m.put(v, waits)
}

func (m *model) around() names {
	one := func(f func(waits int, v any) any) *thunk {
		return found(mfn(func(waits int, arg *thunk) any { return f(waits, arg.need(waits)) }))
	}
	return names{bound: map[string]*thunk{
		"true": found(true), "false": found(false), "null": found(mnull{}),
		"toString": one(func(waits int, v any) any { return m.toString(v, waits) }),
		"length":   one(func(waits int, v any) any { return int64(len(as[mlist](v))) }),
		"isList":   one(func(waits int, v any) any { _, ok := v.(mlist); return ok }),
		"attrNames": one(func(waits int, v any) any {
			l := mlist{}
			for _, name := range sorted(as[mset](v)) {
				l = append(l, found(mtext{s: name}))
			}
			return l
		}),
		"throw": one(func(waits int, v any) any { as[mtext](v); panic(api.ErrThrow) }),
		"storePath": one(func(waits int, v any) any {
			s := as[mtext](v).s
			if !naming.Is(s) {
				panic(api.ErrText)
			}
			return mtext{s, []string{s}}
		}),
		"map": found(mfn(func(waits int, f *thunk) any {
			return mfn(func(waits int, l *thunk) any {
				r := mlist{}
				for _, k := range as[mlist](l.need(waits)) {
					m.step()
					r = append(r, &thunk{find: func(waits int) any { return as[mfn](f.need(waits))(waits, k) }})
				}
				return r
			})
		})),
		"elemAt": found(mfn(func(waits int, l *thunk) any {
			return mfn(func(waits int, n *thunk) any {
				list := as[mlist](l.need(waits))
				if i := as[int64](n.need(waits)); 0 <= i && i < int64(len(list)) {
					return list[i].need(waits)
				}
				panic(api.ErrNone)
			})
		})),
		"derivation": one(func(waits int, v any) any { return m.derivation(as[mset](v), waits) }),
	}}
}

func (m *model) derivation(s mset, waits int) any {
	var l [3]mtext
	for i, name := range []string{"name", "recipe", "fixed"} {
		if s[name] != nil {
			l[i] = m.text(s[name].need(waits), waits)
		} else if i < 2 {
			panic(api.ErrNone)
		}
	}
	d := api.Drv{Name: l[0].s, Recipe: l[1].s, Fixed: l[2].s}
	var sums [][32]byte
	for _, p := range long("", slices.Concat(l[0].from, l[1].from, l[2].from)...).from {
		if need, ok := m.made[p]; ok {
			d.Drvs, sums = append(d.Drvs, p), append(sums, need.Sum)
		} else {
			d.Sources = append(d.Sources, p)
		}
	}
	path, e := drv.Path(d)
	if e != api.OK {
		panic(e)
	}
	sum, _ := drv.Modulo(d, sums)
	out, _ := drv.Out(d, sums)
	m.made[path] = eval.Made{Path: path, Drv: d, Sum: sum, Out: out}
	return mset{"type": found(mtext{s: "derivation"}), "name": found(mtext{s: d.Name}), "drvPath": found(mtext{path, []string{path}}), "outPath": found(mtext{out, []string{path}})}
}

func (m *model) tell(s string) { m.told.WriteString(s) }

func (m *model) show(k *thunk, waits int) {
	v := k.need(waits)
	waits = m.enter(waits)
	switch v := v.(type) {
	case int64:
		m.tell(strconv.FormatInt(v, 10))
	case mtext:
		m.tell(`"` + strings.NewReplacer(`\`, `\\`, `"`, `\"`, "\n", `\n`, "\t", `\t`, `$`, `\$`).Replace(v.s) + `"`)
	case bool:
		m.tell(strconv.FormatBool(v))
	case mnull:
		m.tell("null")
	case mfn:
		m.tell("<fn>")
	case mlist:
		m.tell("[")
		for i, k := range v {
			m.tell(" "[:min(i, 1)])
			m.show(k, waits)
		}
		m.tell("]")
	case mset:
		m.tell("{")
		for i, name := range sorted(v) {
			m.tell(" "[:min(i, 1)] + name + " = ")
			m.show(v[name], waits)
			m.tell(";")
		}
		m.tell("}")
	}
	if m.told.Len() > 65536 {
		panic(api.ErrLong)
	}
}

// modelOf is what the model says of an expression.
func modelOf(x api.Expr, fuel int) (r eval.Result, e api.Errno) {
	m := &model{fuel: fuel, made: map[string]eval.Made{}}
	defer func() {
		if thrown := recover(); thrown != nil {
			r, e = eval.Result{}, thrown.(api.Errno)
		}
	}()
	m.show(m.late(x, m.around()), 0)
	r = eval.Result{Text: m.told.String(), Steps: m.steps}
	for _, made := range m.made {
		r.Made = append(r.Made, made)
	}
	slices.SortFunc(r.Made, func(a, b eval.Made) int { return strings.Compare(a.Path, b.Path) })
	return r, api.OK
}

// bigger is a number of 128 bits, in digits of 16, the lowest first, below 0 by its own sign.
type bigger struct {
	l    [8]uint32
	sign bool
}

func (g *bigger) of(n int64) *bigger {
	u := uint64(n)
	if n < 0 {
		g.sign, u = true, -u
	}
	for i := range 4 {
		g.l[i] = uint32(u >> (16 * i) & 0xffff)
	}
	return g
}

func (g *bigger) reckon(sign string, a, b int64) (int64, bool) {
	x, y := new(bigger).of(a), new(bigger).of(b)
	if sign == "-" {
		y.sign = !y.sign
	}
	switch {
	case sign == "*":
		g.sign = x.sign != y.sign
		for i := range 4 {
			for j := range 4 {
				p := x.l[i] * y.l[j]
				g.l[i+j] += p & 0xffff
				g.l[i+j+1] += p >> 16
			}
		}
	case x.sign == y.sign:
		g.sign = x.sign
		for i := range 5 {
			g.l[i] = x.l[i] + y.l[i]
		}
	default:
		if x.less(y) {
			x, y = y, x
		}
		g.sign = x.sign
		borrow := uint32(0)
		for i := range 5 {
			d := x.l[i] + 0x10000 - y.l[i] - borrow
			g.l[i], borrow = d&0xffff, 1-d>>16
		}
	}
	return g.fits()
}

func (g *bigger) less(h *bigger) bool {
	for i := 7; i >= 0; i-- {
		if g.l[i] != h.l[i] {
			return g.l[i] < h.l[i]
		}
	}
	return false
}

// fits: the number, if it has 64 bits with a sign.
func (g *bigger) fits() (int64, bool) {
	for i := range 7 {
		g.l[i+1] += g.l[i] >> 16
		g.l[i] &= 0xffff
	}
	u := uint64(0)
	for i := range 4 {
		u |= uint64(g.l[i]) << (16 * i)
		if g.l[i+4] != 0 {
			return 0, false
		}
	}
	if g.sign {
		return -int64(u), u <= 1<<63
	}
	return int64(u), u < 1<<63
}

// writer writes expressions, most of which are something.
type writer struct {
	d      *samples.Dice
	budget int
	bound  []string // the names that are bound, with their kinds: x:n is a number
	depth  int
}

// The kinds that a writer knows: numbers, texts, truths, lists of numbers, sets, functions of numbers to numbers, derivations. A set's names tell the kinds of what they are.
const writerKinds = "ntblsfd"

func (w *writer) pick(l ...string) string { return l[w.d.Roll(len(l))] }

// any writes an expression of a kind, in brackets where it has more than a word.
func (w *writer) any(kind byte) string {
	w.budget--
	w.depth++
	defer func() { w.depth-- }()
	if w.d.Roll(60) == 0 {
		kind = writerKinds[w.d.Roll(len(writerKinds))]
	}
	if w.budget <= 0 || w.depth > 12 || w.d.Roll(5) == 0 {
		return w.least(kind)
	}
	switch w.d.Roll(14) {
	case 0:
		return w.let(kind)
	case 1:
		return "(if " + w.any('b') + " then " + w.any(kind) + " else " + w.any(kind) + ")"
	case 2:
		return "(with " + w.any('s') + "; " + w.any(kind) + ")"
	case 3:
		return "(assert " + w.any('b') + "; " + w.any(kind) + ")"
	case 4:
		return "(" + w.name(kind, func(x string) string { return x + ": " + w.any(kind) }) + " " + w.any(kind) + ")"
	case 5:
		return "(" + w.pattern(kind) + " " + w.any('s') + ")"
	case 6:
		return w.any('s') + "." + string(kind) + w.pick("", "", " or "+w.any(kind))
	case 7:
		return "(elemAt [" + w.any(kind) + " " + w.any(kind) + "] " + w.pick("0", "1", "1", "0", "2", "(0 - 1)") + ")"
	}
	return w.own(kind)
}

// name writes what binds a name of a kind.
func (w *writer) name(kind byte, inside func(string) string) string {
	x := w.pick("x", "y", "z", "n", "t", "b", "l", "map", "true")
	if w.d.Roll(3) > 0 {
		x = w.pick("x", "y", "z")
	}
	was := w.bound
	w.bound = append(slices.Clone(was), x+":"+string(kind))
	s := inside(x)
	w.bound = was
	return s
}

func (w *writer) let(kind byte) string {
	other := writerKinds[w.d.Roll(len(writerKinds))]
	return w.name(other, func(x string) string {
		s := "(let " + x + " = " + w.any(other) + "; "
		if w.d.Roll(3) == 0 && x != "n" {
			s += "inherit n; "
		}
		if w.d.Roll(3) == 0 && x != "t" {
			s += "inherit (" + w.any('s') + ") t; "
		}
		return s + "in " + w.any(kind) + ")"
	})
}

func (w *writer) pattern(kind byte) string {
	was := w.bound
	w.bound = slices.Clone(was)
	var l []string
	for _, k := range writerKinds[:4] {
		if w.d.Roll(2) == 0 {
			continue
		}
		w.bound = append(w.bound, string(k)+":"+string(k))
		l = append(l, string(k)+w.pick("", " ? "+w.any(byte(k)), " ? "+w.any(byte(k))))
	}
	if w.d.Roll(5) > 0 {
		l = append(l, "...")
	}
	s := "({" + strings.Join(l, ", ") + "}: " + w.any(kind) + ")"
	w.bound = was
	return s
}

// least writes a word, or little more.
func (w *writer) least(kind byte) string {
	var l []string
	for _, x := range w.bound {
		if x[len(x)-1] == kind {
			l = append(l, x[:len(x)-2])
		}
	}
	if len(l) > 0 && w.d.Roll(3) > 0 {
		return w.pick(l...)
	}
	switch w.d.Roll(50) {
	case 0:
		return "(throw \"no\")"
	case 1, 2:
		return string(kind)
	}
	switch kind {
	case 'n':
		return w.pick("0", "1", "2", "7", "9223372036854775807", "(-3)", "(-9223372036854775807 - 1)")
	case 't':
		return w.pick(`""`, `"a"`, `"b"`, `"\n\t\"\\\$"`, `(storePath "00000000000000000000000000000000-a")`, `(storePath "00000000000000000000000000000001-a.drv")`)
	case 'b':
		return w.pick("true", "false")
	case 'l':
		return w.pick("[]", "[1]", "[1 2]", "[3 2 1]")
	case 's':
		return w.pick("{}", "{n = 1;}", `{n = 2; t = "t"; l = [];}`, `{t = "s"; outPath = "p";}`, "{n = 1; outPath = {outPath = 3;};}")
	case 'f':
		return w.pick("(x: x)", "(x: x + 1)", "(x: 1)")
	}
	return `(derivation {name = "d"; recipe = "` + w.pick("x", "y") + `";})`
}

// own writes what a kind alone can be.
func (w *writer) own(kind byte) string {
	switch kind {
	case 'n':
		return w.pick(w.both('n', "+", "-", "*"), w.both('n', "+", "-", "*"), "(-"+w.any('n')+")", "(length "+w.any('l')+")", "("+w.any('f')+" "+w.any('n')+")", "(elemAt "+w.any('l')+" "+w.any('n')+")")
	case 't':
		s := w.pick("t", "n", "s", "d", "t", "d")[0]
		return w.pick(`"`+w.pick("", "x")+"${"+w.any(s)+"}${"+w.any('t')+`}"`, "("+w.any('t')+" + "+w.any(w.pick("t", "t", "d", "s")[0])+")", "(toString "+w.any(w.pick("n", "t", "b", "l", "s", "d")[0])+")", "(storePath "+w.any('t')+")", w.any('d')+w.pick(".drvPath", ".outPath", ".name", ".type"))
	case 'b':
		k := writerKinds[w.d.Roll(5)]
		return w.pick(w.both(k, "==", "!="), w.both(w.pick("n", "t")[0], "<"), w.both('b', "&&", "||"), "(!"+w.any('b')+")", "(isList "+w.any(k)+")", "("+w.any('l')+" == attrNames "+w.any('s')+")")
	case 'l':
		return w.pick("(map "+w.any('f')+" "+w.any('l')+")", w.both('l', "++"), "["+w.any('n')+" "+w.any('n')+"]", "(map (x: x) "+w.any('l')+")", "(attrNames "+w.any('s')+")")
	case 's':
		return w.pick(w.both('s', "//"), w.set("{", 0), w.set("rec {", 1), w.set("rec {", 1))
	case 'f':
		return w.pick("("+w.name('n', func(x string) string { return x + ": " + w.any('n') })+")", "("+w.name('f', func(x string) string { return x + ": " + w.any('f') })+" "+w.any('f')+")", "(elemAt "+w.any('l')+")")
	}
	s := `(derivation {name = "` + w.pick("e", "f-1.0", "a.drv", "g", "h") + `"; recipe = ` + w.any('t') + `;`
	if w.d.Roll(4) == 0 {
		s += ` fixed = ` + w.pick(`""`, `"00000000000000000000000000000000000000000000000000000000000000ff"`, `"ff"`) + `;`
	}
	return s + "})"
}

func (w *writer) both(kind byte, signs ...string) string {
	return "(" + w.any(kind) + " " + w.pick(signs...) + " " + w.any(kind) + ")"
}

func (w *writer) set(s string, rec int) string {
	was := w.bound
	w.bound = slices.Clone(was)
	var l []byte
	for _, k := range []byte("ntblf") {
		if w.d.Roll(3) > 0 {
			l = append(l, k)
			if rec > 0 {
				w.bound = append(w.bound, string(k)+":"+string(k))
			}
		}
	}
	for _, k := range l {
		switch w.d.Roll(8) {
		case 0:
			s += " inherit " + string(k) + ";"
		case 1:
			s += " inherit (" + w.any('s') + ") " + string(k) + ";"
		default:
			s += " " + string(k) + " = " + w.any(k) + ";"
		}
	}
	w.bound = was
	return s + w.pick("", "", "", ` outPath = "o";`, " outPath = "+w.any(w.pick("t", "s", "d", "n", "b")[0])+";") + " }"
}

// TestP5_Model holds what expressions are, in how many steps, and at each fuel, to the model.
func TestP5_Model(t *testing.T) {
	d := samples.Dice(11)
	seen := map[api.Errno]int{}
	for range 30000 {
		w := writer{d: &d, budget: d.Roll(60)}
		s := w.any(writerKinds[d.Roll(len(writerKinds))])
		x, _, e := parse.Parse(s)
		if e == api.ErrDeep || e == api.ErrLong {
			continue
		}
		if e != api.OK {
			t.Fatalf("%q is no expression: %d", s, e)
		}
		want, fault := modelOf(x, 20000)
		seen[fault]++
		sameAs(t, s, 20000, want, fault)
		for _, fuel := range []int{want.Steps, want.Steps - 1, d.Roll(40), d.Roll(200)} {
			want, fault = modelOf(x, max(0, fuel))
			sameAs(t, s, max(0, fuel), want, fault)
		}
	}
	for _, e := range []api.Errno{api.OK, api.ErrForm, api.ErrText, api.ErrNone, api.ErrExists, api.ErrKind, api.ErrName, api.ErrLoop, api.ErrThrow, api.ErrRange} {
		if seen[e] < 20 {
			t.Errorf("%d: %d of the expressions", e, seen[e])
		}
	}
	if seen[api.OK] < 10000 {
		t.Errorf("%d of the expressions are something", seen[api.OK])
	}
}

func sameAs(t *testing.T, s string, fuel int, want eval.Result, fault api.Errno) {
	t.Helper()
	r, at, e := eval.Text(s, fuel)
	if !reflect.DeepEqual(r, want) || at != 0 || e != fault {
		t.Fatalf("Text(%q, %d) = %v, %d, %d, and not %v, %d", s, fuel, r, at, e, want, fault)
	}
}
