package realise_test

import (
	"bytes"
	"maps"
	"slices"
	"strings"
	"testing"

	"staddle/api"
	"staddle/drv"
	"staddle/nar"
	"staddle/realise"
	"staddle/samples"
	"staddle/tree"
	"staddle/valid"
)

func TestP18_1_Add(t *testing.T) {
	d, b := fresh(t, 100)
	x := made("a", "x")
	a := adds(t, b, x)
	if a != "jvmx4ilwnrj4dm06a6padj8b775qxv1l-a.drv" {
		t.Errorf("Add = %s", a)
	}
	src := addsTree(t, b, "src", dir("f", file("text")))
	y := made("b", "write f \"x\ty\"\n\ncopy a b c\n", a, src)
	need := adds(t, b, y)
	// A derivation's path may be a source, too, and stand in both.
	z := api.Drv{Name: "c", Drvs: rising(a, need), Sources: rising(a, need, src), Fixed: strings.Repeat("0f", 32)}
	last := adds(t, b, z)
	for range 2 {
		has(t, b, a, file(`Derive("a",[],[],"x","")`), "")
		has(t, b, need, file(`Derive("b",["`+a+`"],["`+src+`"],"write f \"x\ty\"\n\ncopy a b c\n","")`), "", a, src)
		has(t, b, last, textOf(t, z), "", a, src, need)
		gets(t, b, a, x)
		gets(t, b, need, y)
		gets(t, b, last, z)
		if l := b.List(); len(l) != 4 {
			t.Errorf("List = %v", l)
		}
		b = falls(t, d)
	}
	// What is kept already stays as it is, also while the power is off.
	for range 2 {
		stays(t, b, func() {
			ops := d.Ops()
			for _, again := range []api.Drv{x, y, z} {
				adds(t, b, again)
			}
			if d.Ops() != ops {
				t.Error("where nothing changes something was written")
			}
		})
		off(t, d)
	}
}

// rising: some paths, sorted.
func rising(l ...string) []string {
	slices.Sort(l)
	return l
}

// TestP18_1_AddAgain: who is told to have made what is kept stays, too.
func TestP18_1_AddAgain(t *testing.T) {
	_, b := fresh(t, 60)
	x := made("a", "x")
	path, _ := drv.Path(x)
	info, _ := valid.Make(path, textOf(t, x), nil, pathOf("7", "by.drv"))
	is(t, "Register", b.Register([]api.Info{info}, []api.Tree{textOf(t, x)}), api.OK)
	stays(t, b, func() { adds(t, b, x) })
	has(t, b, path, textOf(t, x), pathOf("7", "by.drv"))
}

// wrongDrvs: what is no derivation.
func wrongDrvs() []api.Drv {
	low, high := pathOf("0", "a.drv"), pathOf("1", "a.drv")
	var many []string
	for i := range api.MaxInputs + 1 {
		many = append(many, pathOf("0", "a"+strings.Repeat("b", i)+".drv"))
	}
	return []api.Drv{
		{},
		made(".a", "x"),
		made("a b", "x"),
		made("a.drv", "x"),
		made(strings.Repeat("n", api.MaxName-3), "x"),
		made("a", strings.Repeat("x", api.MaxText+1)),
		{Name: "a", Drvs: []string{high, low}},
		{Name: "a", Drvs: []string{low, low}},
		{Name: "a", Drvs: []string{pathOf("0", "a")}},
		{Name: "a", Drvs: []string{""}},
		{Name: "a", Drvs: rising(many...)},
		{Name: "a", Sources: []string{high, low}},
		{Name: "a", Sources: []string{low, low}},
		{Name: "a", Sources: []string{"a"}},
		{Name: "a", Sources: rising(many...)},
		{Name: "a", Fixed: "00"},
		{Name: "a", Fixed: strings.Repeat("0", 63)},
		{Name: "a", Fixed: strings.Repeat("0", 66)},
		{Name: "a", Fixed: strings.Repeat("0F", 32)},
	}
}

// strangers: paths that end in .drv, and are valid, but have no derivation, or another path's.
func strangers(t *testing.T, b *valid.DB) map[string]api.Errno {
	t.Helper()
	text := textOf(t, made("other", ""))
	return map[string]api.Errno{
		addsTree(t, b, "empty.drv", file("")):                                         api.ErrText,
		addsTree(t, b, "word.drv", file("x")):                                         api.ErrText,
		addsTree(t, b, "more.drv", file(string(text.Data)+"\n")):                      api.ErrText,
		addsTree(t, b, "dir.drv", dir("f", text)):                                     api.ErrText,
		addsTree(t, b, "link.drv", link("other.drv")):                                 api.ErrText,
		addsTree(t, b, "wrong.drv", file(`Derive("",[],[],"","")`)):                   api.ErrForm,
		addsTree(t, b, "tab.drv", file("Derive(\"a\",[],[],\"\t\",\"\")")):            api.ErrForm,
		addsTree(t, b, "other.drv", text):                                             api.ErrSum,
		registers(t, b, pathOf("z", "other.drv"), text):                               api.ErrSum,
		registers(t, b, pathOf("y", "a.drv"), file(`Derive("b",[],[],"write f","")`)): api.ErrSum,
	}
}

func TestP18_1_AddWrong(t *testing.T) {
	d, b := fresh(t, 100)
	kept := adds(t, b, made("kept", ""))
	src := addsTree(t, b, "src", file("src"))
	wrong := slices.Collect(maps.Keys(strangers(t, b)))
	for _, x := range wrongDrvs() {
		fails(t, b, x, api.ErrForm)
	}
	none := pathOf("0", "none.drv")
	for range 2 {
		for _, need := range append(wrong, none) {
			fails(t, b, made("a", "", need), api.ErrName)
			fails(t, b, made("a", "", need, kept, src), api.ErrName)
			fails(t, b, made("a", strings.Repeat("x", api.MaxText), need), api.ErrName) // ahead of what Register says
			fails(t, b, made("a.drv", "", need), api.ErrForm)                           // behind what drv.Path says
		}
		// A source must be valid, and no more.
		fails(t, b, api.Drv{Name: "a", Sources: []string{none}}, api.ErrName)
		fails(t, b, made("a", "", kept, src, pathOf("0", "none")), api.ErrName)
		off(t, d)
	}
	fails(t, b, made("a", "", kept, src), api.ErrCrash)
	adds(t, falls(t, d), api.Drv{Name: "a", Sources: rising(wrong...)})
}

// TestP18_1_AddRegister: what Register says of a derivation's file.
func TestP18_1_AddRegister(t *testing.T) {
	_, b := fresh(t, 60)
	src := addsTree(t, b, "src", file("src"))
	// It is valid with other references, or with another tree.
	x, y := made("x", "write f x", src), made("y", "")
	at, _ := drv.Path(x)
	registers(t, b, at, textOf(t, x))
	fails(t, b, x, api.ErrExists)
	at, _ = drv.Path(y)
	registers(t, b, at, dir())
	fails(t, b, y, api.ErrExists)
	// There is no room.
	d, b := fresh(t, 40)
	z := made("z", "")
	for size(t, z) <= b.FS().Room() {
		z.Recipe += "x"
	}
	fails(t, b, z, api.ErrFull)
	z.Recipe = z.Recipe[1:]
	path := adds(t, b, z)
	has(t, falls(t, d), path, textOf(t, z), "")
	// The tree would have too much in all.
	_, b = fresh(t, api.MaxSectors)
	addsTree(t, b, "most", file(strings.Repeat("x", api.MaxData-400)))
	fails(t, b, made("a", strings.Repeat("x", 200)), api.ErrLong)
	adds(t, b, made("a", ""))
}

// size: how many bytes the archive has in which a derivation stands alone.
func size(t *testing.T, d api.Drv) int {
	t.Helper()
	path, _ := drv.Path(d)
	info, e := valid.Make(path, textOf(t, d), nil, "")
	is(t, "Make", e, api.OK)
	text, _ := valid.Encode(info)
	_, n, _ := nar.Sum(dir("db", dir(path, file(text)), "store", dir(path, textOf(t, d))))
	return n
}

// TestP18_1_AddLimits: the greatest derivation that there is.
func TestP18_1_AddLimits(t *testing.T) {
	d, b := fresh(t, 1000)
	x := api.Drv{Name: strings.Repeat("n", api.MaxName-4), Recipe: strings.Repeat("\n", api.MaxText)}
	for i := range api.MaxInputs {
		name := strings.Repeat("i", i+1)
		x.Drvs = append(x.Drvs, adds(t, b, made(name, "")))
		x.Sources = append(x.Sources, addsTree(t, b, name, file("")))
	}
	x.Drvs, x.Sources = rising(x.Drvs...), rising(x.Sources...)
	path := adds(t, b, x)
	b = falls(t, d)
	has(t, b, path, textOf(t, x), "", slices.Concat(x.Drvs, x.Sources)...)
	gets(t, b, path, x)
	x.Recipe += "\n"
	fails(t, b, x, api.ErrForm)
}

func TestP18_1_AddTree(t *testing.T) {
	d, b := fresh(t, 300)
	other := addsTree(t, b, "other", file("x"))
	trees := []api.Tree{
		file(""), tool(""), link(other), dir(), file(other), dir("a", dir("b", tool("#!"+other)), other, link("a/b")), file(strings.Repeat("x", 3000)),
	}
	kept := map[string]api.Tree{other: file("x")}
	for _, x := range trees {
		for _, name := range []string{"a", "b.drv", strings.Repeat("n", api.MaxName)} {
			path := addsTree(t, b, name, x)
			if want := sourceOf(t, x, name); path != want {
				t.Errorf("AddTree = %s, and not %s", path, want)
			}
			has(t, b, path, x, "") // also of a tree in which a path stands: it refers to none
			kept[path] = x
		}
	}
	for range 2 {
		for path, x := range kept {
			has(t, b, path, x, "")
			stays(t, b, func() { addsTree(t, b, path[33:], x) })
		}
		if l := b.List(); len(l) != len(kept) || len(kept) != 1+3*len(trees) {
			t.Errorf("%d paths are valid", len(l))
		}
		b = falls(t, d)
	}
	off(t, d)
	stays(t, b, func() { addsTree(t, b, "a", file("")) })
	failsTree(t, b, "c", file(""), api.ErrCrash)
}

func TestP18_1_AddTreeWrong(t *testing.T) {
	d, b := fresh(t, 60)
	for range 2 {
		for _, name := range []string{"", ".a", "a b", "a/b", strings.Repeat("n", api.MaxName+1), "ä"} {
			failsTree(t, b, name, file("x"), api.ErrText)
			failsTree(t, b, name, api.Tree{}, api.ErrForm) // the tree's error is ahead of the name's
			failsTree(t, b, name, file(strings.Repeat("x", 20000)), api.ErrText)
		}
		for _, x := range samples.Wrong() {
			failsTree(t, b, "a", x, api.ErrForm)
		}
		off(t, d)
	}
	failsTree(t, b, "a", file("x"), api.ErrCrash)
	b = falls(t, d)
	failsTree(t, b, "a", file(strings.Repeat("x", 20000)), api.ErrFull)
	// It is valid with another tree, or refers to something.
	registers(t, b, sourceOf(t, file("x"), "a"), file("y"))
	failsTree(t, b, "a", file("x"), api.ErrExists)
	at := sourceOf(t, file("x"), "b")
	registers(t, b, at, file("x"), at)
	failsTree(t, b, "b", file("x"), api.ErrExists)
	// In the store all stands two deeper.
	failsTree(t, b, "deep", samples.Deep(api.MaxDepth-1, file("")), api.ErrLong)
	addsTree(t, b, "deep", samples.Deep(api.MaxDepth-2, file("")))
}

func TestP18_1_Get(t *testing.T) {
	d, b := fresh(t, 200)
	src := addsTree(t, b, "src", file("src"))
	x := made("x", "write f \"\\\\\"", src)
	path := adds(t, b, x)
	l := strangers(t, b)
	for range 2 {
		gets(t, b, path, x)
		for _, wrong := range []string{"", "x", src, pathOf("0", "a"), pathOf("0", ".drv"), path[1:], path + "/", "store/" + path, pathOf("e", "a.drv"), strings.TrimSuffix(path, ".drv"), pathOf("0", strings.Repeat("n", 37)+".drv"), strings.Repeat("x", 100000) + ".drv"} {
			getsNone(t, b, wrong, api.ErrText)
		}
		for _, none := range []string{pathOf("0", "a.drv"), path[:32] + "-y.drv", pathOf("0", strings.Repeat("n", 36)+".drv")} {
			getsNone(t, b, none, api.ErrNone)
		}
		for stranger, want := range l {
			getsNone(t, b, stranger, want)
		}
		b = falls(t, d)
	}
	is(t, "Remove", b.Remove(path), api.OK)
	getsNone(t, b, path, api.ErrNone)
}

// TestP18_1_GetOfOthers: whoever has made the path valid, and whatever else is known of it.
func TestP18_1_GetOfOthers(t *testing.T) {
	_, b := fresh(t, 60)
	x := made("x", "", pathOf("0", "need.drv"), pathOf("0", "source"))
	path, _ := drv.Path(x)
	registers(t, b, path, textOf(t, x))
	gets(t, b, path, x)
	// Others have taken its tree away.
	is(t, "Do", b.FS().Do([]api.Edit{{Kind: api.ODrop, Path: "store/" + path}}), api.OK)
	getsNone(t, b, path, api.ErrNone)
}

// TestP2_AddKeepsNothing: what is handed in stays as it is, its spare room too, and may be written over; answers are new memory.
func TestP2_AddKeepsNothing(t *testing.T) {
	_, b := fresh(t, 100)
	needs := rising(adds(t, b, made("a", "")), adds(t, b, made("b", "")))
	sources := rising(addsTree(t, b, "a", file("a")), addsTree(t, b, "b", file("b")))
	want := api.Drv{Name: "x", Drvs: slices.Clone(needs), Sources: slices.Clone(sources)}
	x := api.Drv{Name: "x", Drvs: append(needs, "spare", "room")[:2], Sources: append(sources, "spare", "room")[:2]}
	path := adds(t, b, x)
	for _, l := range [][]string{x.Drvs, x.Sources} {
		if !slices.Equal(l[:4][2:], []string{"spare", "room"}) {
			t.Fatal("the spare room of what Add was handed has changed")
		}
	}
	if !sameDrv(x, want) {
		t.Fatal("what Add was handed has changed")
	}
	clear(x.Drvs[:4])
	clear(x.Sources[:4])
	gets(t, b, path, want)
	has(t, b, path, textOf(t, want), "", slices.Concat(want.Drvs, want.Sources)...)
	for range 2 {
		got, _ := realise.Get(b, path)
		got.Drvs, got.Sources = got.Drvs[:cap(got.Drvs)], got.Sources[:cap(got.Sources)]
		for i := range got.Drvs {
			got.Drvs[i] = "#"
		}
		for i := range got.Sources {
			if got.Sources[i] == "#" {
				t.Fatal("two lists of one answer share memory")
			}
		}
		gets(t, b, path, want)
	}
	u := dir("b", dir("c", file("text")), "e", tool("run"))
	v := samples.Roomy(u)
	path = addsTree(t, b, "v", v)
	if !samples.Intact(v, u) {
		t.Fatal("what AddTree was handed has changed, or its spare room")
	}
	samples.Spoil(v)
	has(t, b, path, u, "")
	if y, _ := b.Tree(path); !tree.Same(y, u) || bytes.Contains(y.Kids[1].Data, []byte("#")) {
		t.Fatal("AddTree has kept what it was handed")
	}
}
