package valid_test

import (
	"slices"
	"strings"
	"testing"

	"staddle/api"
	"staddle/nar"
	"staddle/samples"
	"staddle/tree"
	"staddle/valid"
)

func TestP17_3_Register(t *testing.T) {
	d, b := fresh(t, 100)
	registers(t, b)
	holds(t, b)
	p := func(n int) thing {
		refs := [][]string{nil, {pathOf(0, "p")}, {pathOf(2, "p")}, {pathOf(5, "p"), pathOf(1, "p"), pathOf(3, "p")}, {pathOf(6, "p")}, nil, {pathOf(2, "p")}, {pathOf(1, "p"), pathOf(7, "p")}}[n]
		return made(t, pathOf(n, "p"), []api.Tree{file(""), tool("x"), link("y"), dir(), dir("a", file("x"), "b", dir("c", link("d"))), file(strings.Repeat("x", 500)), link(aPath), dir("x", dir())}[n], refs...)
	}
	registers(t, b, p(0))
	holds(t, b, p(0))
	registers(t, b, p(1))
	holds(t, b, p(0), p(1))
	// In any order, whether what they refer to comes ahead of them or behind.
	registers(t, b, p(4), p(6), p(2))
	holds(t, b, p(0), p(1), p(2), p(4), p(6))
	registers(t, b, p(5), p(3), p(7))
	for range 2 {
		holds(t, b, p(0), p(1), p(2), p(3), p(4), p(5), p(6), p(7))
		b = falls(t, d)
	}
	// Some that are valid, and some that aren't.
	from := p(7)
	from.From = pathOf(9, "x.drv")
	more := made(t, aPath, file("more"), pathOf(7, "p"))
	more.From = pathOf(9, "x.drv")
	registers(t, b, p(3), more, p(0), from)
	for range 2 {
		holds(t, b, p(0), more, p(1), p(2), p(3), p(4), p(5), p(6), p(7))
		b = falls(t, d)
	}
}

// TestP17_3_Again: of what is valid already nothing changes, not even who made it; and that is so while the power is off.
func TestP17_3_Again(t *testing.T) {
	d, b := fresh(t, 60)
	x, y := made(t, aPath, file("a"), bPath), made(t, bPath, dir())
	x.From = cPath
	registers(t, b, x, y)
	none, other := x, x
	none.From, other.From = "", pathOf(9, "o.drv")
	for range 2 {
		for _, again := range []thing{x, none, other} {
			for _, l := range [][]thing{{again}, {again, y}, {y, again}, nil} {
				ops := d.Ops()
				registers(t, b, l...)
				if d.Ops() != ops {
					t.Error("where nothing changes something was written")
				}
				holds(t, b, x, y)
			}
			fails(t, b, api.ErrExists, again, again)
		}
		off(t, d)
	}
	fails(t, b, api.ErrCrash, x, made(t, cPath, file("c")), y)
	fails(t, b, api.ErrExists, made(t, aPath, file("a")))
	holds(t, falls(t, d), x, y)
}

// TestP17_3_Wrong: each error, and of several the one that is told first.
func TestP17_3_Wrong(t *testing.T) {
	_, b := fresh(t, 60)
	x, y := made(t, bPath, file("b"), aPath), made(t, aPath, dir())
	registers(t, b, x, y)
	was := []thing{y, x}
	form, sum, size, name, refs, more := made(t, cPath, file("c")), made(t, cPath, file("c")), made(t, cPath, file("c")), made(t, cPath, file("c"), pathOf(4, "d")), made(t, bPath, file("b")), made(t, bPath, file("b"), aPath, bPath)
	form.Size = -1
	sum.Sum[0] ^= 1
	size.Size++
	noTree := thing{made(t, cPath, file("c")).Info, api.Tree{}}
	other := made(t, bPath, file("B"), aPath)
	exec := made(t, bPath, tool("b"), aPath)
	fresh := made(t, pathOf(5, "e"), file("e"))
	large := made(t, pathOf(6, "f"), file(strings.Repeat("x", 30000)))
	for _, r := range []struct {
		want api.Errno
		l    []thing
	}{
		{api.ErrForm, []thing{noTree}},
		{api.ErrForm, []thing{form}},
		{api.ErrSum, []thing{sum}},
		{api.ErrSum, []thing{size}},
		{api.ErrName, []thing{name}},
		{api.ErrExists, []thing{refs}},
		{api.ErrExists, []thing{more}},
		{api.ErrExists, []thing{other}},
		{api.ErrExists, []thing{exec}},
		{api.ErrFull, []thing{large}},
		{api.ErrExists, []thing{fresh, fresh}},
		{api.ErrExists, []thing{fresh, x, fresh}},
		{api.ErrExists, []thing{x, y, x}},
		{api.ErrExists, []thing{x, other}},
		// A path twice comes ahead of all that is at fault with one.
		{api.ErrExists, []thing{noTree, noTree}},
		{api.ErrExists, []thing{noTree, form, fresh}},
		{api.ErrExists, []thing{sum, fresh, name, noTree}},
		{api.ErrExists, []thing{{}, {}}},
		// The first path that has an error, be it what it may.
		{api.ErrSum, []thing{fresh, sum, {}}},
		{api.ErrForm, []thing{fresh, {}, sum}},
		{api.ErrName, []thing{name, other, {}}},
		{api.ErrExists, []thing{other, name, {}}},
		{api.ErrForm, []thing{y, fresh, noTree, other}},
		// Of one path its tree, its form, its sum, its references, and whether it is valid.
		{api.ErrForm, []thing{{other.Info, api.Tree{}}}},
		{api.ErrForm, []thing{{api.Info{Path: "x", Sum: sum.Sum}, file("c")}}},
		{api.ErrForm, []thing{{api.Info{Path: cPath, Sum: sum.Sum, Refs: []string{pathOf(4, "d"), aPath}}, file("c")}}},
		{api.ErrSum, []thing{{api.Info{Path: cPath, Sum: sum.Sum, Refs: []string{pathOf(4, "d")}}, file("c")}}},
		{api.ErrSum, []thing{{api.Info{Path: bPath, Refs: []string{pathOf(4, "d")}}, file("c")}}},
		{api.ErrSum, []thing{{x.Info, file("c")}}},
		{api.ErrSum, []thing{{other.Info, x.tree}}},
		{api.ErrName, []thing{made(t, bPath, file("c"), pathOf(4, "d"))}},
		{api.ErrName, []thing{made(t, bPath, file("b"), aPath, pathOf(4, "d"))}},
		{api.ErrName, []thing{fresh, made(t, cPath, file("c"), aPath, cPath, pathOf(4, "d"), pathOf(5, "e"))}},
		// Any of these comes ahead of what the whole has.
		{api.ErrName, []thing{large, name}},
		{api.ErrExists, []thing{large, refs}},
		{api.ErrFull, []thing{large, fresh, x}},
	} {
		fails(t, b, r.want, r.l...)
		holds(t, b, was...)
	}
	for name, x := range wrongInfos() {
		sum, size, _ := nar.Sum(file(name))
		x.Sum = sum
		if !strings.Contains(name, "size") {
			x.Size = size
		}
		fails(t, b, api.ErrForm, thing{x, file(name)})
		fails(t, b, api.ErrForm, fresh, thing{x, file(name)}, needy(t))
	}
	registers(t, b, fresh)
	holds(t, b, append(was, fresh)...)
}

// needy is a thing that refers to what isn't valid.
func needy(t *testing.T) thing {
	t.Helper()
	return made(t, cPath, file("c"), pathOf(4, "d"))
}

func TestP17_3_RegisterArg(t *testing.T) {
	d, b := fresh(t, 60)
	x := made(t, aPath, file("a"))
	infos, trees := parts([]thing{x, made(t, bPath, file("b")), {}, x})
	for n := range 5 {
		for m := range 5 {
			if n != m {
				is(t, "Register", b.Register(infos[:n], trees[:m]), api.ErrArg)
			}
		}
	}
	holds(t, b)
	off(t, d)
	is(t, "Register", b.Register(infos, trees[:2]), api.ErrArg)
	is(t, "Register", b.Register(nil, nil), api.OK)
}

// TestP17_3_Loop: what refers to itself by way of others can't be valid, but by itself alone it may.
func TestP17_3_Loop(t *testing.T) {
	d, b := fresh(t, 60)
	x := made(t, aPath, file("a"), aPath)
	registers(t, b, x)
	holds(t, b, x)
	y, z := made(t, bPath, file("b"), bPath, cPath), made(t, cPath, file("c"), aPath, bPath, cPath)
	fails(t, b, api.ErrLoop, y, z)
	fails(t, b, api.ErrLoop, z, y)
	fails(t, b, api.ErrLoop, x, z, y)
	fails(t, b, api.ErrLoop, z, made(t, pathOf(4, "d"), file("d")), y)
	var ring []thing
	for i := range 6 {
		ring = append(ring, made(t, pathOf(10+i, "r"), file(""), pathOf(10+(i+1)%6, "r")))
	}
	fails(t, b, api.ErrLoop, ring...)
	// What each path has at fault comes ahead of it, and what fsys has behind it.
	fails(t, b, api.ErrName, append(slices.Clone(ring), needy(t))...)
	fails(t, b, api.ErrExists, append(slices.Clone(ring), made(t, aPath, file("a")))...)
	fails(t, b, api.ErrLoop, append(slices.Clone(ring), made(t, cPath, file(strings.Repeat("x", 30000))))...)
	fails(t, b, api.ErrLoop, append(slices.Clone(ring), made(t, cPath, samples.Deep(api.MaxDepth, file(""))))...)
	off(t, d)
	fails(t, b, api.ErrLoop, ring...)
	fails(t, b, api.ErrCrash, ring[0], made(t, pathOf(11, "r"), file("")))
	b = falls(t, d)
	ring[3] = made(t, pathOf(13, "r"), file(""), aPath, bPath, pathOf(13, "r"))
	registers(t, b, append(ring, made(t, bPath, file("b"), bPath))...)
	holds(t, b, append([]thing{x, made(t, bPath, file("b"), bPath)}, ring...)...)
}

func TestP17_3_Remove(t *testing.T) {
	d, b := fresh(t, 60)
	x, y, z := made(t, aPath, file("a"), bPath), made(t, bPath, dir("f", file("b")), bPath), made(t, cPath, link("c"), bPath, aPath)
	registers(t, b, x, y, z)
	is(t, "Apply", b.Apply([]api.Edit{mkdir("other"), put("other/"+aPath, file("x"))}), api.OK)
	wrong := func(b *valid.DB) {
		t.Helper()
		whole := b.FS().Tree()
		for path, want := range map[string]api.Errno{"": api.ErrText, "x": api.ErrText, "store": api.ErrText, aPath + "/": api.ErrText, bPath + "/f": api.ErrText, "store/" + cPath: api.ErrText, pathOf(4, "d"): api.ErrNone, pathOf(1, "b"): api.ErrNone, aPath: api.ErrBusy, bPath: api.ErrBusy} {
			is(t, "Remove of "+path, b.Remove(path), want)
		}
		if !tree.Same(b.FS().Tree(), whole) {
			t.Fatal("beside an error something has changed")
		}
	}
	wrong(b)
	off(t, d)
	wrong(b)
	is(t, "Remove, off", b.Remove(cPath), api.ErrCrash)
	holds(t, b, x, y, z)
	b = falls(t, d)
	holds(t, b, x, y, z)
	is(t, "Remove", b.Remove(cPath), api.OK)
	holds(t, b, x, y)
	gone(t, b, cPath, api.ErrNone)
	is(t, "Remove, again", b.Remove(cPath), api.ErrNone)
	b = falls(t, d)
	holds(t, b, x, y)
	is(t, "Remove", b.Remove(aPath), api.OK)
	// It refers to itself, but that doesn't count.
	is(t, "Remove", b.Remove(bPath), api.OK)
	for range 2 {
		holds(t, b)
		if u, e := b.FS().At("other/" + aPath); e != api.OK || string(u.Data) != "x" {
			t.Error("what isn't its went with it")
		}
		b = falls(t, d)
	}
	// It may come again, as another one.
	again := made(t, bPath, tool("again"))
	registers(t, b, again)
	holds(t, b, again)
}

// TestP7_RoomComesBack: any number of paths come and go, and where one has gone another one as great has room.
func TestP7_RoomComesBack(t *testing.T) {
	d, b := fresh(t, 18)
	for k := range 300 {
		x := made(t, pathOf(k, "p"), file(strings.Repeat(string(rune('a'+k%26)), 700)))
		registers(t, b, x)
		holds(t, b, x)
		fails(t, b, api.ErrFull, made(t, pathOf(1000+k, "p"), file(strings.Repeat("x", 700))))
		if k%7 == 0 {
			b = falls(t, d)
			holds(t, b, x)
		}
		is(t, "Remove", b.Remove(x.Path), api.OK)
	}
}

// TestP7_NothingElseGoes: what others have in the tree stays, whatever is registered and removed.
func TestP7_NothingElseGoes(t *testing.T) {
	_, b := fresh(t, 60)
	others := dir("a", file("x"), "dbs", dir("x", file("y")), "z", link("store"))
	for i, name := range others.Names {
		is(t, "Apply", b.Apply([]api.Edit{put(name, others.Kids[i])}), api.OK)
	}
	x := made(t, aPath, file("a"))
	y := made(t, bPath, file("b"), aPath)
	for range 3 {
		registers(t, b, x)
		registers(t, b, y)
		is(t, "Remove", b.Remove(bPath), api.OK)
		holds(t, b, x)
		is(t, "Remove", b.Remove(aPath), api.OK)
		holds(t, b)
		want := dir("a", others.Kids[0], "db", dir(), "dbs", others.Kids[1], "store", dir(), "z", others.Kids[2])
		if got := b.FS().Tree(); !tree.Same(got, want) {
			t.Fatalf("there is %q", tree.Paths(got))
		}
	}
}

// TestP17_3_Full: a path may have all of the room that there is, and not a byte more.
func TestP17_3_Full(t *testing.T) {
	for _, sectors := range []int{10, 11, 20, 40} {
		d, b := fresh(t, sectors)
		_, ahead, _ := nar.Sum(b.FS().Tree())
		// What two directories get with a path each, what that has aside.
		text := written(made(t, aPath, file(strings.Repeat("x", 1000))).Info)
		sample := dir("db", dir(aPath, file(text)), "store", dir(aPath, file("")))
		_, with, _ := nar.Sum(sample)
		room := b.FS().Room()
		if with > room || ahead >= with {
			t.Fatalf("there is no room for a path on %d sectors: %d of %d", sectors, with, room)
		}
		n := (room - with) / 8 * 8
		text = written(made(t, aPath, file(strings.Repeat("x", n))).Info)
		_, with, _ = nar.Sum(dir("db", dir(aPath, file(text)), "store", dir(aPath, file(""))))
		n = (room - with) / 8 * 8
		full := made(t, aPath, file(strings.Repeat("x", n)))
		fails(t, b, api.ErrFull, made(t, aPath, file(strings.Repeat("x", n+1))))
		for range 5 {
			registers(t, b, full)
			holds(t, b, full)
			fails(t, b, api.ErrFull, made(t, bPath, file("")))
			b = falls(t, d)
			holds(t, b, full)
			is(t, "Remove", b.Remove(aPath), api.OK)
			holds(t, b)
		}
	}
}

// TestP17_3_Limits: the deepest, the greatest and the most trees beside what is known of them, and one more.
func TestP17_3_Limits(t *testing.T) {
	d, b := fresh(t, api.MaxSectors)
	know := len(written(made(t, aPath, file(strings.Repeat("x", 60000))).Info))
	for _, r := range []struct{ at, beyond api.Tree }{
		// A path's tree stands at the depth 2.
		{samples.Deep(api.MaxDepth-2, file("x")), samples.Deep(api.MaxDepth-1, file("x"))},
		// Beside it stand the root, both directories and a file.
		{samples.Wide(api.MaxNodes - 5), samples.Wide(api.MaxNodes - 4)},
		{file(strings.Repeat("x", api.MaxData-know)), file(strings.Repeat("x", api.MaxData-know+1))},
	} {
		fails(t, b, api.ErrLong, made(t, aPath, r.beyond))
		x := made(t, aPath, r.at)
		registers(t, b, x)
		b = falls(t, d)
		holds(t, b, x)
		is(t, "Remove", b.Remove(aPath), api.OK)
	}
	long, longer := pathOf(1, strings.Repeat("n", api.MaxName)), pathOf(1, strings.Repeat("n", api.MaxName+1))
	x := made(t, long, file("x"), long)
	registers(t, b, x)
	holds(t, b, x)
	sum, size, _ := nar.Sum(file("x"))
	fails(t, b, api.ErrForm, thing{api.Info{Path: longer, Sum: sum, Size: size}, file("x")})
	gone(t, b, longer, api.ErrText)
}

// TestP17_3_Many: so many paths at once as have room, in a row in which each refers to the next.
func TestP17_3_Many(t *testing.T) {
	d, b := fresh(t, api.MaxSectors)
	var l []thing
	for i := range 300 {
		refs := []string{pathOf(i+1, "p")}
		if i == 299 {
			refs = nil
		}
		l = append(l, made(t, pathOf(i, "p"), file(""), refs...))
	}
	fails(t, b, api.ErrName, l[:299]...)
	registers(t, b, l...)
	b = falls(t, d)
	holds(t, b, l...)
	if c := b.Closure([]string{pathOf(100, "p")}); len(c) != 200 {
		t.Errorf("Closure has %d paths", len(c))
	}
	is(t, "Remove", b.Remove(pathOf(299, "p")), api.ErrBusy)
	for i := range 50 {
		is(t, "Remove", b.Remove(pathOf(i, "p")), api.OK)
	}
	holds(t, b, l[50:]...)
}

// TestP2_RegisterKeepsNothing: what is handed in stays as it is, its spare room too, and may be written over.
func TestP2_RegisterKeepsNothing(t *testing.T) {
	d, b := fresh(t, 60)
	x := dir("b", dir("c", file("text"), "d", link("c")), "e", tool("run"))
	want := []thing{made(t, aPath, x, aPath, bPath), made(t, bPath, x)}
	infos, trees := parts(want)
	for i := range infos {
		room := append(slices.Clone(infos[i].Refs), "spare", "room")
		infos[i].Refs = room[:len(infos[i].Refs)]
		trees[i] = samples.Roomy(x)
	}
	infos = append(infos, api.Info{Path: "spare"})[:2]
	trees = append(trees, file("spare"))[:2]
	is(t, "Register", b.Register(infos, trees), api.OK)
	for i := range infos {
		refs := infos[i].Refs
		if !sameInfo(infos[i], want[i].Info) || !samples.Intact(trees[i], x) || !slices.Equal(refs[:len(refs)+2][len(refs):], []string{"spare", "room"}) {
			t.Fatal("what Register was handed has changed, or its spare room")
		}
	}
	if infos[:3][2].Path != "spare" || string(trees[:3][2].Data) != "spare" {
		t.Fatal("the spare room of what Register was handed has changed")
	}
	for i := range infos {
		clear(infos[i].Refs[:cap(infos[i].Refs)])
		samples.Spoil(trees[i])
	}
	clear(infos)
	clear(trees)
	holds(t, b, want...)
	y := put("n", samples.Roomy(x))
	is(t, "Apply", b.Apply([]api.Edit{y}), api.OK)
	if !samples.Intact(y.Tree, x) {
		t.Fatal("what Apply was handed has changed, or its spare room")
	}
	samples.Spoil(y.Tree)
	if got, e := b.FS().At("n"); e != api.OK || !tree.Same(got, x) {
		t.Fatal("Apply has kept what it was handed")
	}
	holds(t, falls(t, d), want...)
}

// TestP2_AnswersAreNewMemory: whoever writes over an answer changes nothing but that.
func TestP2_AnswersAreNewMemory(t *testing.T) {
	_, b := fresh(t, 60)
	x := made(t, aPath, dir("f", file("a")), aPath, bPath)
	y := made(t, bPath, file("b"))
	registers(t, b, x, y)
	roots := append(make([]string, 0, 3), aPath)
	for range 2 {
		info, _ := b.Info(aPath)
		clear(info.Refs[:cap(info.Refs)])
		t1, _ := b.Tree(aPath)
		samples.Spoil(t1)
		for _, l := range [][]string{b.List(), b.Users(bPath), b.Closure(roots), b.Graph().Names()} {
			if len(l) == 0 {
				t.Fatal("nothing is told")
			}
			clear(l[:cap(l)])
		}
		is(t, "Do", b.FS().Do([]api.Edit{put("store/"+bPath, file("x"))}), api.OK)
		l := b.Verify()
		clear(l[:cap(l)])
		if again := b.Verify(); !slices.Equal(again, []string{bPath}) {
			t.Errorf("Verify = %v", again)
		}
		is(t, "Do", b.FS().Do([]api.Edit{put("store/"+bPath, file("b"))}), api.OK)
		holds(t, b, x, y)
		if !slices.Equal(roots, []string{aPath}) || roots[:3][1] != "" {
			t.Error("what Closure was handed has changed")
		}
	}
	// What was told stays, whatever is done behind it.
	g, l := b.Graph(), b.List()
	is(t, "Remove", b.Remove(aPath), api.OK)
	if !slices.Equal(g.Names(), []string{aPath, bPath}) || !slices.Equal(l, []string{aPath, bPath}) || !slices.Equal(b.List(), []string{bPath}) {
		t.Error("what was told has changed")
	}
}

// TestP2_TwoOfOneTree: what one object has done another one of the same tree tells, too.
func TestP2_TwoOfOneTree(t *testing.T) {
	_, b := fresh(t, 60)
	c := opened(t, b.FS())
	x := made(t, aPath, file("a"))
	registers(t, b, x)
	holds(t, c, x)
	fails(t, c, api.ErrExists, made(t, aPath, file("b")))
	is(t, "Remove", c.Remove(aPath), api.OK)
	holds(t, b)
	is(t, "Do", b.FS().Do([]api.Edit{put("db/"+aPath, file(written(x.Info))), put("store/"+aPath, x.tree)}), api.OK)
	holds(t, b, x)
	holds(t, c, x)
}
