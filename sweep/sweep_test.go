package sweep_test

import (
	"slices"
	"strings"
	"testing"

	"staddle/api"
	"staddle/profile"
	"staddle/realise"
	"staddle/samples"
	"staddle/sector"
	"staddle/sweep"
	"staddle/tree"
	"staddle/valid"
)

var file, link, dir = samples.File, samples.Link, samples.Dir

// All that can be kept besides.
var keeps = []sweep.Keep{{}, {Drvs: true}, {Outs: true}, {Drvs: true, Outs: true}}

// is fails where a call answers another error.
func is(t *testing.T, what string, e, want api.Errno) {
	t.Helper()
	if e != want {
		t.Fatalf("%s = %d, and not %d", what, e, want)
	}
}

// fresh: a device on which no path is valid, and its paths.
func fresh(t *testing.T, sectors int) (*sector.Device, *valid.DB) {
	t.Helper()
	d, b, e := samples.Store(sectors)
	is(t, "Store", e, api.OK)
	return d, b
}

// falls lets the power go off and on, and all that is on its way is lost; the paths that stand on the device then.
func falls(t *testing.T, d *sector.Device) *valid.DB {
	t.Helper()
	b, e := samples.Fallen(d)
	is(t, "Fallen", e, api.OK)
	return b
}

// keep makes a path valid that nobody has made.
func keep(t *testing.T, b *valid.DB, path string, refs ...string) string {
	t.Helper()
	is(t, "Keep", samples.Keep(b, path, file(path), "", refs...), api.OK)
	return path
}

// root fails where a path doesn't become a root.
func root(t *testing.T, b *valid.DB, path string) {
	t.Helper()
	is(t, "Root", profile.Root(b, "r", path), api.OK)
}

// paths: the paths of some signs, such as "a b".
func paths(signs string) []string {
	var l []string
	for _, sign := range strings.Fields(signs) {
		l = append(l, samples.Path(sign, sign))
	}
	return l
}

// graph makes paths valid, of lines such as "a: b c" each with what it refers to, which must stand further up.
func graph(t *testing.T, b *valid.DB, lines ...string) {
	t.Helper()
	for _, line := range lines {
		name, refs, _ := strings.Cut(line, ":")
		keep(t, b, paths(name)[0], paths(refs)...)
	}
}

// parts fails where others are kept, or others not, or these in another order; both as signs.
func parts(t *testing.T, b *valid.DB, k sweep.Keep, live, dead string) {
	t.Helper()
	partsAre(t, b, k, paths(live), paths(dead))
}

// partsAre does so by paths.
func partsAre(t *testing.T, b *valid.DB, k sweep.Keep, live, dead []string) {
	t.Helper()
	was := b.FS().Tree()
	if l := sweep.Live(b, k); !slices.Equal(l, live) {
		t.Fatalf("Live = %v, and not %v", l, live)
	}
	if l := sweep.Dead(b, k); !slices.Equal(l, dead) {
		t.Fatalf("Dead = %v, and not %v", l, dead)
	}
	if !tree.Same(b.FS().Tree(), was) {
		t.Fatal("what only tells has changed something")
	}
}

// size: how many bytes some paths have.
func size(t *testing.T, b *valid.DB, l ...string) int {
	t.Helper()
	n := 0
	for _, path := range l {
		x, e := b.Info(path)
		is(t, "Info", e, api.OK)
		n += x.Size
	}
	return n
}

// collects fails where others go, or something else goes; those that must go are handed in.
func collects(t *testing.T, b *valid.DB, k sweep.Keep, limit int, gone ...string) {
	t.Helper()
	left := slices.DeleteFunc(b.List(), func(path string) bool { return slices.Contains(gone, path) })
	bytes := size(t, b, gone...)
	l, n, e := sweep.Collect(b, k, limit)
	if e != api.OK || n != bytes || !slices.Equal(l, gone) {
		t.Fatalf("Collect = %v, %d, %d, and not %v, %d", l, n, e, gone, bytes)
	}
	if now := b.List(); !slices.Equal(now, left) {
		t.Fatalf("List = %v, and not %v", now, left)
	}
	if l := b.Verify(); len(l) > 0 {
		t.Fatalf("Verify = %v", l)
	}
}

func TestP20_1_Example(t *testing.T) {
	d, b := fresh(t, 100)
	graph(t, b, "b", "a: b", "c")
	root(t, b, paths("a")[0])
	parts(t, b, sweep.Keep{}, "a b", "c")
	collects(t, b, sweep.Keep{}, -1, paths("c")...)
	b = falls(t, d)
	parts(t, b, sweep.Keep{}, "a b", "")
	collects(t, b, sweep.Keep{}, -1)
}

func TestP20_1_Live(t *testing.T) {
	d, b := fresh(t, 200)
	graph(t, b, "d", "c: d", "b: c", "a: b a", "g", "f: d g", "h: h")
	l := paths("a b c d f g h")
	parts(t, b, sweep.Keep{}, "", "h f g a b c d")
	parts(t, b, sweep.Keep{Paths: l[2:3]}, "c d", "h f g a b")
	parts(t, b, sweep.Keep{Paths: l}, "a b c d f g h", "")
	// What isn't valid keeps nothing, and what is told twice stands there once.
	more := append(paths("z 0 c g c"), "", "x", l[1][1:], l[1]+"x")
	parts(t, b, sweep.Keep{Paths: more}, "c d g", "h f a b")
	// Roots, generations that count and that don't.
	root(t, b, l[6])
	parts(t, b, sweep.Keep{}, "h", "f g a b c d")
	for _, path := range []string{l[2], l[5]} {
		_, e := profile.Set(b, "p", path)
		is(t, "Set", e, api.OK)
	}
	for range 2 {
		for _, k := range keeps { // nobody has made these, and they make nothing
			parts(t, b, k, "c d g h", "f a b")
			k.Paths = l[1:2]
			parts(t, b, k, "b c d g h", "f a")
		}
		b = falls(t, d)
	}
	is(t, "Drop", profile.Drop(b, "p", 1), api.OK)
	parts(t, b, sweep.Keep{}, "g h", "f a b c d")
	root(t, b, "")
	parts(t, b, sweep.Keep{}, "g", "h f a b c d")
}

// TestP20_1_Dead: the order is that of those alone that are not kept, turned about.
func TestP20_1_Dead(t *testing.T) {
	_, b := fresh(t, 200)
	graph(t, b, "z", "a: z", "b", "c: a b", "d: b", "x: x z")
	parts(t, b, sweep.Keep{}, "", "x c a z d b")
	// Where z is kept, a needs nothing that must go behind it.
	root(t, b, paths("z")[0])
	parts(t, b, sweep.Keep{}, "z", "x d c b a")
	collects(t, b, sweep.Keep{}, -1, paths("x d c b a")...)
	// A long row, each behind the one that refers to it.
	_, b = fresh(t, 1000)
	signs := "0 1 2 3 4 5 6 7 8 9 a b c d f g h i j k l m n p q r s v w x y z" // those of base 32
	rows := strings.Fields(signs)
	for i, sign := range rows {
		graph(t, b, sign+": "+strings.Join(rows[max(0, i-2):i], " "))
	}
	slices.Reverse(rows)
	parts(t, b, sweep.Keep{}, "", strings.Join(rows, " "))
	root(t, b, paths("g")[0])
	parts(t, b, sweep.Keep{}, "0 1 2 3 4 5 6 7 8 9 a b c d f g", strings.Join(rows[:16], " "))
}

// built is derivations of which the second needs the first, each with its Out.
type built struct {
	src, lib, libOut, app, appOut string
}

// builds adds them and does them.
func builds(t *testing.T, b *valid.DB) built {
	t.Helper()
	var l built
	var e api.Errno
	l.src, e = realise.AddTree(b, "src", file("src"))
	is(t, "AddTree", e, api.OK)
	l.lib, e = realise.Add(b, api.Drv{Name: "lib", Sources: []string{l.src}, Recipe: "copy " + l.src + ` "" f`})
	is(t, "Add", e, api.OK)
	l.libOut, e = realise.Out(b, l.lib)
	is(t, "Out", e, api.OK)
	l.app, e = realise.Add(b, api.Drv{Name: "app", Drvs: []string{l.lib}, Recipe: "link l " + l.libOut})
	is(t, "Add", e, api.OK)
	out, n, e := realise.Realise(b, l.app)
	is(t, "Realise", e, api.OK)
	if l.appOut = out; n != 2 {
		t.Fatalf("%d were done", n)
	}
	return l
}

// kept fails where others are kept.
func kept(t *testing.T, b *valid.DB, k sweep.Keep, live ...string) {
	t.Helper()
	slices.Sort(live)
	if l := sweep.Live(b, k); !slices.Equal(l, live) {
		t.Fatalf("with %v Live = %v, and not %v", k, l, live)
	}
}

// TestP20_1_DrvsAndOuts: what is kept besides, and all that goes with that.
func TestP20_1_DrvsAndOuts(t *testing.T) {
	d, b := fresh(t, 300)
	l := builds(t, b)
	none, drvs, outs, both := keeps[0], keeps[1], keeps[2], keeps[3]
	for range 2 {
		for _, k := range keeps {
			kept(t, b, k)
		}
		// What was made refers to what was made, not to what has made it.
		none.Paths, drvs.Paths, outs.Paths, both.Paths = []string{l.libOut}, []string{l.libOut}, []string{l.libOut}, []string{l.libOut}
		kept(t, b, none, l.libOut)
		kept(t, b, drvs, l.libOut, l.lib, l.src)
		kept(t, b, outs, l.libOut)
		kept(t, b, both, l.libOut, l.lib, l.src)
		none.Paths, drvs.Paths, outs.Paths, both.Paths = []string{l.appOut}, []string{l.appOut}, []string{l.appOut}, []string{l.appOut}
		kept(t, b, none, l.appOut, l.libOut)
		kept(t, b, drvs, l.appOut, l.libOut, l.app, l.lib, l.src)
		kept(t, b, outs, l.appOut, l.libOut)
		kept(t, b, both, l.appOut, l.libOut, l.app, l.lib, l.src)
		none.Paths, drvs.Paths, outs.Paths, both.Paths = []string{l.app}, []string{l.app}, []string{l.app}, []string{l.app}
		kept(t, b, none, l.app, l.lib, l.src)
		kept(t, b, drvs, l.app, l.lib, l.src)
		kept(t, b, outs, l.app, l.lib, l.src, l.appOut, l.libOut)
		kept(t, b, both, l.app, l.lib, l.src, l.appOut, l.libOut)
		none.Paths, drvs.Paths, outs.Paths, both.Paths = []string{l.lib}, []string{l.lib}, []string{l.lib}, []string{l.lib}
		kept(t, b, none, l.lib, l.src)
		kept(t, b, outs, l.lib, l.src, l.libOut)
		kept(t, b, both, l.lib, l.src, l.libOut)
		b = falls(t, d)
	}
	// A derivation whose Out isn't valid makes nothing that could be kept.
	is(t, "Remove", b.Remove(l.appOut), api.OK)
	kept(t, b, sweep.Keep{Outs: true, Paths: []string{l.app}}, l.app, l.lib, l.src, l.libOut)
	// One that is gone can't be kept.
	root(t, b, l.libOut)
	collects(t, b, sweep.Keep{}, -1, sweep.Dead(b, sweep.Keep{})...)
	kept(t, b, sweep.Keep{Drvs: true, Outs: true}, l.libOut)
}

// TestP20_1_OneOut: of several derivations with one Out that one has made it that was done first; it is what is kept.
func TestP20_1_OneOut(t *testing.T) {
	_, b := fresh(t, 300)
	x := api.Drv{Name: "f", Recipe: "write f x", Fixed: samples.Digits(dir("f", file("x")))}
	y := x
	y.Recipe = "write f y\nwrite f x"
	one, e := realise.Add(b, x)
	is(t, "Add", e, api.OK)
	two, e := realise.Add(b, y)
	is(t, "Add", e, api.OK)
	out, _, e := realise.Realise(b, two)
	is(t, "Realise", e, api.OK)
	kept(t, b, sweep.Keep{Drvs: true, Paths: []string{out}}, out, two)
	kept(t, b, sweep.Keep{Outs: true, Paths: []string{one}}, out, one)
	kept(t, b, sweep.Keep{Drvs: true, Outs: true, Paths: []string{one}}, out, one, two)
}

// TestP20_1_Strangers: whatever is told to have made a path is kept with it; what only looks like a derivation makes nothing.
func TestP20_1_Strangers(t *testing.T) {
	_, b := fresh(t, 300)
	low, high := keep(t, b, samples.Path("0", "low")), keep(t, b, samples.Path("1", "high.drv"))
	is(t, "Keep", samples.Keep(b, samples.Path("2", "a"), file("a"), low), api.OK)
	is(t, "Keep", samples.Keep(b, samples.Path("3", "b"), file("b"), high), api.OK)
	is(t, "Keep", samples.Keep(b, samples.Path("4", "c"), file("c"), samples.Path("n", "none.drv")), api.OK)
	is(t, "Keep", samples.Keep(b, samples.Path("5", "d"), file("d"), samples.Path("5", "d")), api.OK)
	for i, path := range []string{samples.Path("2", "a"), samples.Path("3", "b")} {
		maker := []string{low, high}[i]
		kept(t, b, sweep.Keep{Outs: true, Paths: []string{path}}, path)
		kept(t, b, sweep.Keep{Drvs: true, Outs: true, Paths: []string{path}}, path, maker)
	}
	for _, path := range []string{samples.Path("4", "c"), samples.Path("5", "d"), low, high} {
		kept(t, b, sweep.Keep{Drvs: true, Outs: true, Paths: []string{path}}, path)
	}
	// A derivation that needs one that isn't there has no Out.
	lone := api.Drv{Name: "lone", Drvs: []string{samples.Path("n", "none.drv")}}
	path, text := samples.DrvFile(lone)
	is(t, "Keep", samples.Keep(b, path, text, ""), api.OK)
	kept(t, b, sweep.Keep{Drvs: true, Outs: true, Paths: []string{path}}, path)
}

// TestP1_NoDB: of none nothing is told, and no call panics of a zero object.
func TestP1_NoDB(t *testing.T) {
	for _, k := range keeps {
		k.Paths = paths("a b")
		for _, limit := range []int{-1, 0, 1} {
			if l, n, e := sweep.Collect(nil, k, limit); len(l) > 0 || n != 0 || e != api.ErrNone {
				t.Errorf("Collect = %v, %d, %d", l, n, e)
			}
			sweep.Collect(&valid.DB{}, k, limit)
		}
		for _, b := range []*valid.DB{nil, {}} {
			if live, dead := sweep.Live(b, k), sweep.Dead(b, k); len(live)+len(dead) > 0 {
				t.Errorf("Live = %v, Dead = %v", live, dead)
			}
		}
	}
}

// TestP2_KeepsNothing: what is handed in stays as it is, its spare room too; answers are new memory.
func TestP2_KeepsNothing(t *testing.T) {
	_, b := fresh(t, 200)
	graph(t, b, "c", "b: c", "a", "d")
	root(t, b, paths("a")[0])
	list := append(paths("d b z d"), "spare", "room")
	k := sweep.Keep{Paths: list[:4], Drvs: true, Outs: true}
	for range 2 {
		live, dead := sweep.Live(b, k), sweep.Dead(b, sweep.Keep{})
		clear(live[:cap(live)])
		clear(dead[:cap(dead)])
		parts(t, b, k, "a b c d", "")
		parts(t, b, sweep.Keep{}, "a", "d b c")
	}
	collects(t, b, k, -1)
	if !slices.Equal(list, append(paths("d b z d"), "spare", "room")) {
		t.Fatalf("what was handed in is %v now", list)
	}
}
