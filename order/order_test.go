package order_test

import (
	"runtime/debug"
	"slices"
	"strconv"
	"strings"
	"testing"

	"staddle/api"
	"staddle/order"
	"staddle/samples"
)

// list: the words of a text.
func list(s string) []string {
	return strings.Fields(s)
}

// graph: of lines such as "a: b c" the graph.
func graph(t *testing.T, s string) *order.Graph {
	t.Helper()
	var names []string
	var needs [][]string
	for _, line := range strings.Split(s, "\n") {
		if name, need, ok := strings.Cut(line, ":"); ok {
			names = append(names, strings.TrimSpace(name))
			needs = append(needs, list(need))
		}
	}
	return made(t, names, needs)
}

// made: a graph.
func made(t *testing.T, names []string, needs [][]string) *order.Graph {
	t.Helper()
	g, e := order.New(names, needs)
	if e != api.OK || g == nil {
		t.Fatalf("New = %v, %d", g, e)
	}
	return g
}

// is fails where a list isn't the one that is wanted.
func is(t *testing.T, what string, l []string, want ...string) {
	t.Helper()
	if !slices.Equal(l, want) {
		t.Errorf("%s = %.300q, and not %.300q", what, l, want)
	}
}

// sorts fails where the names are sorted in another way.
func sorts(t *testing.T, g *order.Graph, want ...string) {
	t.Helper()
	if l, e := g.Sort(); e != api.OK || !slices.Equal(l, want) {
		t.Errorf("Sort = %.300q, %d, and not %.300q", l, e, want)
	}
}

// loops fails where the names can be sorted.
func loops(t *testing.T, g *order.Graph) {
	t.Helper()
	if l, e := g.Sort(); e != api.ErrLoop || len(l) != 0 {
		t.Errorf("Sort = %.300q, %d, and not ErrLoop", l, e)
	}
}

func TestP13_1_Names(t *testing.T) {
	is(t, "Names", graph(t, "a: c\nb:\nc:").Names(), "a", "b", "c")
	is(t, "Names", graph(t, "c: a\nb: x\na: y").Names(), "a", "b", "c")
	is(t, "Names", graph(t, "b: a\na:\nb:\na: b\nb: b").Names(), "a", "b")
	is(t, "Names", made(t, nil, nil).Names())
	is(t, "Names", made(t, []string{}, [][]string{}).Names())
	// They rise by their bytes; the empty one is a name, too.
	names := []string{"b", "\xff", "a", "", "B", "a/b", "a b", "é", "aa", "10", "9", "\x00"}
	is(t, "Names", made(t, names, make([][]string, len(names))).Names(), "", "\x00", "10", "9", "B", "a", "a b", "a/b", "aa", "b", "é", "\xff")
}

func TestP13_1_NewWrong(t *testing.T) {
	for _, c := range []struct {
		names []string
		needs [][]string
	}{
		{[]string{"a"}, nil},
		{nil, [][]string{nil}},
		{nil, [][]string{{"a"}}},
		{[]string{"a", "b"}, [][]string{{"b"}}},
		{[]string{"a"}, [][]string{{}, {}}},
		{[]string{"a", "a"}, [][]string{{"a"}}},
		{[]string{""}, [][]string{}},
	} {
		if g, e := order.New(c.names, c.needs); g != nil || e != api.ErrArg {
			t.Errorf("New(%q, %q) = %v, %d", c.names, c.needs, g, e)
		}
	}
}

func TestP13_1_ToldTwice(t *testing.T) {
	g := graph(t, "a: b\nc:\na: c\nb:\na:\nd: a\nb: d")
	is(t, "Closure", g.Closure(list("a")), "a", "b", "c", "d")
	loops(t, g)
	g = graph(t, "a: d\nd:\nb:\na: b\na: d")
	sorts(t, g, "b", "d", "a")
	is(t, "Users", g.Users("d"), "a")
	is(t, "Users", g.Users("b"), "a")
}

func TestP13_2_Closure(t *testing.T) {
	g := graph(t, "app: lib tool\nlib: base none\ntool: base\nbase:\nother: lib\nself: self")
	is(t, "Closure", g.Closure(list("app")), "app", "base", "lib", "tool")
	is(t, "Closure", g.Closure(list("lib")), "base", "lib")
	is(t, "Closure", g.Closure(list("base")), "base")
	is(t, "Closure", g.Closure(list("other tool")), "base", "lib", "other", "tool")
	is(t, "Closure", g.Closure(list("tool other tool")), "base", "lib", "other", "tool")
	is(t, "Closure", g.Closure(list("self")), "self")
	// What is no name is left out, as a root and as a need.
	is(t, "Closure", g.Closure(list("none")))
	is(t, "Closure", g.Closure([]string{"", "none", "base", "x"}), "base")
	is(t, "Closure", g.Closure(nil))
	is(t, "Closure", g.Closure(g.Names()), g.Names()...)
	is(t, "Closure", made(t, nil, nil).Closure(list("a b")))
	// Loops are gone through once.
	g = graph(t, "a: b\nb: c\nc: a d\nd: d\ne: a")
	is(t, "Closure", g.Closure(list("b")), "a", "b", "c", "d")
	is(t, "Closure", g.Closure(list("e")), "a", "b", "c", "d", "e")
	g = made(t, []string{"", "a"}, [][]string{nil, {""}})
	is(t, "Closure", g.Closure(list("a")), "", "a")
	is(t, "Closure", g.Closure([]string{""}), "")
}

func TestP13_2_Sort(t *testing.T) {
	sorts(t, graph(t, "a: c\nb:\nc:"), "b", "c", "a") // the document's example
	sorts(t, made(t, nil, nil))
	sorts(t, graph(t, "a:"), "a")
	sorts(t, graph(t, "c:\nb:\na:"), "a", "b", "c")
	sorts(t, graph(t, "a: b\nb: c\nc: d\nd:"), "d", "c", "b", "a")
	sorts(t, graph(t, "d: c\nc: b\nb: a\na:"), "a", "b", "c", "d")
	sorts(t, graph(t, "a: b c\nb: d\nc: d\nd:"), "d", "b", "c", "a")
	// What becomes ready stands ahead of greater ones that were ready long since.
	sorts(t, graph(t, "a: m\nm:\nn:\nz:\nb: z"), "m", "a", "n", "z", "b")
	sorts(t, graph(t, "a: y z\nb: y\nx:\ny:\nz:"), "x", "y", "b", "z", "a")
	// Of all orders the one whose first is the least, and so on; not the one that has the least name first.
	sorts(t, graph(t, "a: z\nb:\nc: b\nz: c"), "b", "c", "z", "a")
	// Itself aside; what is no name; a need told twice.
	sorts(t, graph(t, "a: a\nb: b a b"), "a", "b")
	sorts(t, graph(t, "a: x y b\nb: x"), "b", "a")
	sorts(t, graph(t, "a: b b b\nb: c c\nc:"), "c", "b", "a")
	// By their bytes.
	sorts(t, made(t, list("é 9 10 B b \xff"), make([][]string, 6)), "10", "9", "B", "b", "é", "\xff")
	sorts(t, made(t, []string{"", "a"}, [][]string{{"a"}, nil}), "a", "")
}

func TestP13_2_SortLoop(t *testing.T) {
	loops(t, graph(t, "a: b\nb: a"))
	loops(t, graph(t, "a: b\nb: c\nc: a"))
	loops(t, graph(t, "a:\nb: a c\nc: b\nd: a"))
	loops(t, graph(t, "a: a b\nb: a b"))
	loops(t, graph(t, "a:\nb: a\nc: d\nd: e\ne: c\nf: c\ng: f"))
	loops(t, made(t, []string{"", "a"}, [][]string{{"a"}, {""}}))
	// Only by both times that a is told.
	loops(t, graph(t, "a:\nb: a\na: b"))
	sorts(t, graph(t, "a:\nb: a\na: c"), "a", "b")
	// A loop leaves the graph as it is.
	g := graph(t, "a: b\nb: a\nc:")
	loops(t, g)
	loops(t, g)
	is(t, "Names", g.Names(), "a", "b", "c")
	is(t, "Users", g.Users("a"), "b")
}

func TestP13_2_Users(t *testing.T) {
	g := graph(t, "c: a\nb: a c\na:\nd: d\ne: d e x\nf: x x")
	is(t, "Users", g.Users("a"), "b", "c")
	is(t, "Users", g.Users("c"), "b")
	is(t, "Users", g.Users("b"))
	is(t, "Users", g.Users("d"), "e")
	is(t, "Users", g.Users("e"))
	is(t, "Users", g.Users(""))
	is(t, "Users", g.Users("none"))
	// x is no name, but names need it.
	is(t, "Users", g.Users("x"), "e", "f")
	g = graph(t, "a: b\nb: a")
	is(t, "Users", g.Users("a"), "b")
	is(t, "Users", g.Users("b"), "a")
	// Not those that need it by way of others.
	g = graph(t, "a: b\nb: c\nc:")
	is(t, "Users", g.Users("c"), "b")
	is(t, "Users", made(t, []string{"a"}, [][]string{{""}}).Users(""), "a")
	is(t, "Users", made(t, nil, nil).Users("a"))
}

func TestP13_2_Nil(t *testing.T) {
	var g *order.Graph
	is(t, "Names", g.Names())
	is(t, "Closure", g.Closure(list("a b")))
	is(t, "Closure", g.Closure(nil))
	is(t, "Users", g.Users("a"))
	if l, e := g.Sort(); len(l) != 0 || e != api.ErrNone {
		t.Errorf("Sort of nil = %q, %d", l, e)
	}
}

// model is what the document says of a graph, without any haste.
type model struct {
	names []string
	needs [][]string
}

// need: does one name need another one?
func (m model) need(name, other string) bool {
	for i := range m.names {
		if m.names[i] == name && slices.Contains(m.needs[i], other) {
			return true
		}
	}
	return false
}

// those: the names for which something holds, rising, each once.
func (m model) those(hold func(string) bool) []string {
	var l []string
	for _, name := range m.names {
		if hold(name) {
			l = append(l, name)
		}
	}
	slices.Sort(l)
	return slices.Compact(l)
}

// closure: names are added as long as one is needed.
func (m model) closure(roots []string) []string {
	l := m.those(func(name string) bool { return slices.Contains(roots, name) })
	for {
		longer := m.those(func(name string) bool {
			return slices.Contains(l, name) || slices.ContainsFunc(l, func(user string) bool { return m.need(user, name) })
		})
		if len(longer) == len(l) {
			return l
		}
		l = longer
	}
}

// sort: at each place the least of those that aren't there yet, and whose needs are.
func (m model) sort() ([]string, api.Errno) {
	var l []string
	all := m.those(func(string) bool { return true })
	for range all {
		free := m.those(func(name string) bool {
			return !slices.Contains(l, name) && !slices.ContainsFunc(all, func(other string) bool {
				return other != name && m.need(name, other) && !slices.Contains(l, other)
			})
		})
		if len(free) == 0 {
			return nil, api.ErrLoop
		}
		l = append(l, free[0])
	}
	return l, api.OK
}

// anyModel: any names, some twice, that need any others, many of them later ones, so that some are without loops.
func anyModel(d *samples.Dice) model {
	var m model
	room := 1 + d.Roll(9)
	for range d.Roll(12) {
		at := d.Roll(room)
		var l []string
		for range d.Roll(4) {
			other := at + d.Roll(room+1-at)
			if d.Roll(3) == 0 {
				other = d.Roll(room + 1)
			}
			l = append(l, sign(other, room))
		}
		m.names = append(m.names, sign(at, room))
		m.needs = append(m.needs, l)
	}
	return m
}

// sign: the name of a number; they don't rise with these.
func sign(n, room int) string {
	return string(rune('a' + (n*5+room)%11))
}

// TestP13_2_AsTold holds all calls to the document at many graphs.
func TestP13_2_AsTold(t *testing.T) {
	d := samples.Dice(13)
	sorted, looped := 0, 0
	for range 10000 {
		m := anyModel(&d)
		g := made(t, m.names, m.needs)
		all := m.those(func(string) bool { return true })
		is(t, "Names", g.Names(), all...)
		if want, e := m.sort(); e == api.OK {
			sorts(t, g, want...)
			sorted++
		} else {
			loops(t, g)
			looped++
		}
		for _, name := range append(all, "a", "k", "") {
			users := m.those(func(user string) bool { return user != name && m.need(user, name) })
			is(t, "Users("+name+")", g.Users(name), users...)
			is(t, "Closure("+name+")", g.Closure([]string{name}), m.closure([]string{name})...)
		}
		roots := []string{sign(d.Roll(9), 3), sign(d.Roll(9), 3), ""}
		is(t, "Closure", g.Closure(roots), m.closure(roots)...)
		if t.Failed() {
			t.Fatalf("of %q, %q", m.names, m.needs)
		}
	}
	if sorted < 1000 || looped < 1000 {
		t.Errorf("only %d could be sorted, and %d not", sorted, looped)
	}
}

// TestP1_LargeGraphsEnd: deep ones without a deep stack, and wide ones; all of them soon.
func TestP1_LargeGraphsEnd(t *testing.T) {
	defer debug.SetMaxStack(debug.SetMaxStack(1 << 20))
	const n = 200000
	var names, turned []string
	var chain, ring, star, fan [][]string
	for i := range n {
		names = append(names, strconv.Itoa(1000000+i))
		chain = append(chain, []string{strconv.Itoa(1000001 + i)})
		ring = append(ring, []string{strconv.Itoa(1000000 + (i+1)%n)})
		star = append(star, []string{"1000000"})
		fan = append(fan, nil)
	}
	fan[0] = names
	turned = slices.Clone(names)
	slices.Reverse(turned)
	g := made(t, names, chain)
	sorts(t, g, turned...)
	is(t, "Closure", g.Closure(names[:1]), names...)
	is(t, "Users", g.Users(names[n-1]), names[n-2])
	g = made(t, names, ring)
	loops(t, g)
	is(t, "Closure", g.Closure(names[n/2:n/2+1]), names...)
	g = made(t, names, star)
	sorts(t, g, names...)
	is(t, "Users", g.Users(names[0]), names[1:]...)
	is(t, "Closure", g.Closure(names), names...)
	g = made(t, names, fan)
	sorts(t, g, append(slices.Clone(names[1:]), names[0])...)
	is(t, "Closure", g.Closure(names[:1]), names...)
	// One name, told many times.
	g = made(t, slices.Repeat([]string{"a"}, n), star)
	is(t, "Names", g.Names(), "a")
	is(t, "Users", g.Users(names[0]), "a")
	// Each needs all that are behind it.
	var all [][]string
	for i := range 1000 {
		all = append(all, names[i:1000])
	}
	g = made(t, names[:1000], all)
	sorts(t, g, turned[n-1000:]...)
	is(t, "Closure", g.Closure(names[500:501]), names[500:1000]...)
}

func TestP2_WhatIsHandedInStays(t *testing.T) {
	names := append(make([]string, 0, 9), "b", "a", "c")
	needs := [][]string{append(make([]string, 0, 9), "c", "a"), nil, {"a"}}
	roots := append(make([]string, 0, 9), "c", "b", "none")
	g := made(t, names, needs)
	g.Closure(roots)
	is(t, "names", names[:6], "b", "a", "c", "", "", "")
	is(t, "needs", needs[0][:4], "c", "a", "", "")
	is(t, "roots", roots[:6], "c", "b", "none", "", "", "")
	// Nothing of it is kept.
	for _, l := range [][]string{names, needs[0], needs[2], roots} {
		l = l[:cap(l)]
		for i := range l {
			l[i] = "z"
		}
	}
	clear(needs)
	is(t, "Names", g.Names(), "a", "b", "c")
	sorts(t, g, "a", "c", "b")
	is(t, "Users", g.Users("a"), "b", "c")
}

func TestP2_AnswersAreNewMemory(t *testing.T) {
	g := graph(t, "b: c a\na:\nc: a\nb: x y z")
	for range 3 {
		sorted, e := g.Sort()
		if e != api.OK {
			t.Fatalf("Sort: %d", e)
		}
		names, closure, users := g.Names(), g.Closure(list("b")), g.Users("a")
		is(t, "Names", names, "a", "b", "c")
		is(t, "Sort", sorted, "a", "c", "b")
		is(t, "Closure", closure, "a", "b", "c")
		is(t, "Users", users, "b", "c")
		for _, l := range [][]string{names, sorted, closure, users} {
			l = l[:cap(l)]
			for i := range l {
				l[i] = "#"
			}
		}
		is(t, "Users", g.Users("x"), "b")
	}
	// Two graphs of the same lists have nothing to do with one another.
	m, n := []string{"a", "b"}, [][]string{{"b"}, nil}
	one, other := made(t, m, n), made(t, m, n)
	clear(one.Names())
	is(t, "Names", other.Names(), "a", "b")
	sorts(t, other, "b", "a")
}
