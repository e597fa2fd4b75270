package realise_test

import (
	"slices"
	"strings"
	"testing"

	"staddle/api"
	"staddle/drv"
	"staddle/realise"
	"staddle/samples"
	"staddle/tree"
	"staddle/valid"
)

// realises fails where not so many are done for a derivation, or anything else comes of it than its Out; that path.
func realises(t *testing.T, b *valid.DB, path string, want int) string {
	t.Helper()
	out, n, e := realise.Realise(b, path)
	if e != api.OK || n != want || out != outOf(t, b, path) || !b.Is(out) {
		t.Fatalf("Realise(%s) = %q, %d, %d, and not %d", path, out, n, e, want)
	}
	return out
}

// stops fails where Realise has another error, or others were done ahead of it.
func stops(t *testing.T, b *valid.DB, path string, done int, want api.Errno) {
	t.Helper()
	was := len(b.List())
	out, n, e := realise.Realise(b, path)
	if e != want || n != done || out != "" {
		t.Fatalf("Realise(%s) = %q, %d, %d, and not %d, %d", path, out, n, e, done, want)
	}
	if now := len(b.List()); now != was+done {
		t.Fatalf("%d paths more are valid, and not %d", now-was, done)
	}
	if l := b.Verify(); len(l) > 0 {
		t.Fatalf("Verify = %v", l)
	}
}

// makes fails where a derivation makes something else, or that refers to something else.
func makes(t *testing.T, b *valid.DB, d api.Drv, x api.Tree, refs ...string) string {
	t.Helper()
	path := adds(t, b, d)
	out := realises(t, b, path, 1)
	has(t, b, out, x, path, refs...)
	stays(t, b, func() { realises(t, b, path, 0) })
	return out
}

// refuses fails where a derivation makes anything, or has another error.
func refuses(t *testing.T, b *valid.DB, d api.Drv, want api.Errno) {
	t.Helper()
	path := adds(t, b, d)
	stays(t, b, func() { stops(t, b, path, 0, want) })
}

func TestP18_3_Example(t *testing.T) {
	d, b := fresh(t, 60)
	a := adds(t, b, made("a", "write f x"))
	out := realises(t, b, a, 1)
	for range 2 {
		has(t, b, out, dir("f", file("x")), a)
		stays(t, b, func() { realises(t, b, a, 0) })
		if l := b.List(); len(l) != 2 {
			t.Errorf("List = %v", l)
		}
		b = falls(t, d)
	}
	// What goes can be made again.
	is(t, "Remove", b.Remove(out), api.OK)
	realises(t, b, a, 1)
	has(t, b, out, dir("f", file("x")), a)
	// A derivation that is gone has no Out any more, but what it has made stays.
	is(t, "Remove", b.Remove(a), api.OK)
	errs(t, b, a, api.ErrNone)
	has(t, b, out, dir("f", file("x")), a)
}

func TestP18_3_Diamond(t *testing.T) {
	d, b := fresh(t, 100)
	l := addsAll(t, b, diamond)
	base, lib, tool, app := l["base"], l["lib"], l["tool"], l["app"]
	realises(t, b, lib.Path, 2)
	realises(t, b, app.Path, 2)
	for range 2 {
		has(t, b, base.Out, dir("f", file("base")), base.Path)
		has(t, b, lib.Out, dir("f", file("baselib")), lib.Path)
		has(t, b, tool.Out, dir("g", samples.Tool("base")), tool.Path)
		has(t, b, app.Out, dir("l", link(app.Out+"/run"), "lib", dir("f", file("baselib")), "run", samples.Tool("base")), app.Path, app.Out)
		if l := b.List(); len(l) != 8 {
			t.Errorf("List = %v", l)
		}
		b = falls(t, d)
	}
	// What lies between is not made again, but what must be done needs it.
	for _, x := range []string{app.Out, lib.Out, base.Out} {
		is(t, "Remove", b.Remove(x), api.OK)
	}
	realises(t, b, tool.Path, 0)
	realises(t, b, app.Path, 3)
	has(t, b, app.Out, dir("l", link(app.Out+"/run"), "lib", dir("f", file("baselib")), "run", samples.Tool("base")), app.Path, app.Out)
}

// TestP18_3_Inputs: a recipe reads what its derivation names, and what that refers to, and so on, and nothing else.
func TestP18_3_Inputs(t *testing.T) {
	_, b := fresh(t, 400)
	deep := addsTree(t, b, "deep", file("deep"))
	middle := registers(t, b, pathOf("1", "middle"), dir("m", file("middle")), deep)
	src := registers(t, b, pathOf("2", "src"), link("src"), middle, pathOf("2", "src"))
	else1 := addsTree(t, b, "else", file("else"))
	lib := adds(t, b, made("lib", "write f "+middle+"\nwrite g x", src))
	out := realises(t, b, lib, 1)
	has(t, b, out, dir("f", file(middle), "g", file("x")), lib, middle)
	all := func(paths ...string) string {
		var lines []string
		for _, path := range paths {
			lines = append(lines, `copy `+path+` "" `+path[33:])
		}
		return strings.Join(lines, "\n")
	}
	makes(t, b, made("a", all(src, middle, deep), src), dir("deep", file("deep"), "middle", dir("m", file("middle")), "src", link("src")))
	makes(t, b, made("b", all(out, middle, deep), lib), dir("deep", file("deep"), "lib", dir("f", file(middle), "g", file("x")), "middle", dir("m", file("middle"))), middle)
	makes(t, b, made("c", all(deep), deep), dir("deep", file("deep")))
	// Neither what lies above, nor what is there besides, nor derivations, nor what it makes itself.
	refuses(t, b, made("d", all(src), lib), api.ErrName)
	refuses(t, b, made("d", all(middle), deep), api.ErrName)
	refuses(t, b, made("d", all(else1), src, lib), api.ErrName)
	refuses(t, b, made("d", all(lib), lib), api.ErrName)
	refuses(t, b, made("d", `copy @out@ "" f`, lib), api.ErrName)
	refuses(t, b, made("d", `copy x "" f`, lib), api.ErrName)
	refuses(t, b, made("d", `copy `+out[:32]+` "" f`, lib), api.ErrName)
	refuses(t, b, made("d", `copy `+out+`/f "" f`, lib), api.ErrName)
	// A derivation may be read where it is a source; with it go the paths that it names, but not what these make.
	asSource := api.Drv{Name: "e", Sources: []string{lib}, Recipe: all(lib, src, middle, deep)}
	makes(t, b, asSource, dir("deep", file("deep"), "lib.drv", textOf(t, made("lib", "write f "+middle+"\nwrite g x", src)), "middle", dir("m", file("middle")), "src", link("src")), middle, src)
	asSource.Recipe = all(out)
	refuses(t, b, asSource, api.ErrName)
	asSource.Drvs = []string{lib}
	asSource.Recipe = all(out, lib)
	makes(t, b, asSource, dir("lib", dir("f", file(middle), "g", file("x")), "lib.drv", textOf(t, made("lib", "write f "+middle+"\nwrite g x", src))), middle, src)
}

// TestP18_3_Refs: what is made refers to the paths whose signs stand in it, of those that could be read and its own.
func TestP18_3_Refs(t *testing.T) {
	_, b := fresh(t, 400)
	deep := addsTree(t, b, "deep", file("deep"))
	src := registers(t, b, pathOf("2", "src"), link("src"), deep)
	else1 := addsTree(t, b, "else", file("else"))
	makes(t, b, made("a", "write f "+src, src), dir("f", file(src)), src)
	makes(t, b, made("b", "link f ../"+src+"/x", src), dir("f", link("../"+src+"/x")), src)
	makes(t, b, made("c", "mkdir "+src, src), dir(src, dir()), src)
	makes(t, b, made("d", "write f "+deep, src), dir("f", file(deep)), deep)
	makes(t, b, made("e", "write f x"+deep[:32]+"x\nwrite g "+src[1:], src), dir("f", file("x"+deep[:32]+"x"), "g", file(src[1:])), deep)
	makes(t, b, made("f", "write f "+src+deep, src), dir("f", file(src+deep)), deep, src)
	makes(t, b, made("g", "write f "+else1, src), dir("f", file(else1)))
	// Its own: by its path, or by the signs alone.
	x := made("h", "mkdir @out@\nwrite @out@/f @out@@out@\nlink l @out@", src)
	path := adds(t, b, x)
	own := outOf(t, b, path)
	makes(t, b, x, dir(own, dir("f", file(own+own)), "l", link(own)), own)
	// What makes it needs that, but doesn't refer to it; who reads it may refer to all that it refers to.
	user := made("i", "copy "+own+" l l\nwrite f @out@", path)
	made1 := outOf(t, b, adds(t, b, user))
	makes(t, b, user, dir("f", file(made1), "l", link(own)), own, made1)
	// A derivation's path is one like all others, where it may be read.
	makes(t, b, api.Drv{Name: "j", Sources: []string{path}, Recipe: "write f " + path + src + deep}, dir("f", file(path+src+deep)), path, src, deep)
	makes(t, b, made("k", "write f "+path, path), dir("f", file(path)))
	// Of several that have the same signs the least alone.
	low, high := registers(t, b, pathOf("3", "low"), file("")), registers(t, b, pathOf("3", "high"), file(""))
	makes(t, b, made("l", "write f "+low, low, high), dir("f", file(low)), high)
	makes(t, b, made("m", "write f "+low, low), dir("f", file(low)), low)
}

func TestP18_3_Fixed(t *testing.T) {
	_, b := fresh(t, 400)
	src := addsTree(t, b, "src", file("text"))
	x := dir("f", file("text"))
	makes(t, b, fixed(t, made("a", "copy "+src+` "" f`, src), x), x)
	// Its path comes of the tree, so it doesn't stand there.
	makes(t, b, fixed(t, made("b", "write f @out@\nappend f x@out@\nlink @out@ @out@"), dir("@out@", link("@out@"), "f", file("@out@x@out@"))), dir("@out@", link("@out@"), "f", file("@out@x@out@")))
	makes(t, b, fixed(t, made("c", ""), dir()), dir())
	// It has another digest.
	refuses(t, b, fixed(t, made("d", "write f x"), dir("f", file("y"))), api.ErrSum)
	refuses(t, b, fixed(t, made("d", "write f x"), dir("f", tool("x"))), api.ErrSum)
	refuses(t, b, fixed(t, made("d", "write f x"), file("x")), api.ErrSum)
	zero := made("d", "")
	zero.Fixed = strings.Repeat("0", 64)
	refuses(t, b, zero, api.ErrSum)
	// It refers to something.
	refuses(t, b, fixed(t, made("e", "write f "+src, src), dir("f", file(src))), api.ErrKind)
	refuses(t, b, fixed(t, made("e", "mkdir "+src[:32], src), dir(src[:32], dir())), api.ErrKind)
	makes(t, b, fixed(t, made("e", "write f "+src), dir("f", file(src))), dir("f", file(src))) // but not to what it couldn't read
	// The digest is ahead of that, and the recipe of both.
	refuses(t, b, fixed(t, made("f", "write f "+src, src), dir("f", file("x"))), api.ErrSum)
	refuses(t, b, fixed(t, made("f", "write f "+src+"\nfail x", src), dir("f", file(src))), api.ErrThrow)
	// The digest is that of the archive, and the name is part of the path.
	one, two := outOf(t, b, adds(t, b, fixed(t, made("g", ""), x))), outOf(t, b, adds(t, b, fixed(t, made("h", ""), x)))
	if one == two || one[33:] != "g" || two[33:] != "h" {
		t.Errorf("the paths are %s and %s", one, two)
	}
}

// TestP18_3_Recipe: what its recipe has at fault, and of several the first.
func TestP18_3_Recipe(t *testing.T) {
	_, b := fresh(t, 1000)
	src := addsTree(t, b, "src", dir("f", file("text")))
	for recipe, want := range map[string]api.Errno{
		`write "f x`:                            api.ErrText,
		`mkdir a\`:                              api.ErrText,
		"make x":                                api.ErrName,
		"mkdir a b":                             api.ErrArg,
		"write f":                               api.ErrArg,
		strings.Repeat("write f x\n", 201):      api.ErrLong,
		"fail x":                                api.ErrThrow,
		"fail @out@\nwrite":                     api.ErrArg, // it is no recipe: no step is done
		"write f x\nfail x\nmkdir f":            api.ErrThrow,
		"mkdir a\nmkdir a":                      api.ErrExists,
		"mkdir a/b":                             api.ErrNone,
		"append f x":                            api.ErrNone,
		"mkdir f\nexec f":                       api.ErrKind,
		"write f x\nswap f \"\" y":              api.ErrArg,
		"write a//b x":                          api.ErrText,
		`write "" x`:                            api.ErrArg,
		"link l \"\"":                           api.ErrForm,
		"mkdir " + strings.Repeat("n", 401):     api.ErrLong,
		"copy " + src + " g f":                  api.ErrNone,
		"copy " + src + " f/g f":                api.ErrKind,
		"copy " + src + " f a/f":                api.ErrNone,
		"write f x\nswap f x @out@\ncopy f f g": api.ErrName,
	} {
		refuses(t, b, made("a", recipe, src), want)
		d := made("a", recipe, src)
		d.Fixed = strings.Repeat("0", 64)
		refuses(t, b, d, want)
	}
	var long []string
	want := dir()
	for i := range api.MaxSteps {
		name := "n" + string(rune('a'+i/26)) + string(rune('a'+i%26))
		long = append(long, "mkdir "+name)
		want.Names, want.Kids = append(want.Names, name), append(want.Kids, dir())
	}
	makes(t, b, made("l", strings.Join(long, "\n")), want)
	makes(t, b, made("e", ""), dir())
	makes(t, b, made("e", "\n  \n\n"), dir())
}

// TestP18_3_Stays: beside the first error stands how many were done, and these stay.
func TestP18_3_Stays(t *testing.T) {
	d, b := fresh(t, 200)
	one := adds(t, b, made("one", "write f 1"))
	two := adds(t, b, made("two", "copy "+outOf(t, b, one)+" f f", one))
	bad := adds(t, b, made("bad", "copy "+outOf(t, b, two)+" g f", two))
	top := adds(t, b, made("top", "", bad, one))
	plan := []string{one, two, bad, top}
	plans(t, b, top, plan...)
	stops(t, b, top, 2, api.ErrNone)
	for range 3 {
		has(t, b, outOf(t, b, one), dir("f", file("1")), one)
		has(t, b, outOf(t, b, two), dir("f", file("1")), two)
		plans(t, b, top, bad, top)
		stays(t, b, func() { stops(t, b, top, 0, api.ErrNone) })
		b = falls(t, d)
	}
	// The last one of a row.
	last := adds(t, b, made("last", "fail x", adds(t, b, made("new", "")), one))
	stops(t, b, last, 1, api.ErrThrow)
	plans(t, b, last, last)
}

// TestP18_3_Register: what Register says of what is made.
func TestP18_3_Register(t *testing.T) {
	d, b := fresh(t, 60)
	small := adds(t, b, made("small", "write f x"))
	big := made("big", "", small)
	big.Recipe = "write f " + strings.Repeat("x", 3000)
	path := adds(t, b, big)
	stops(t, b, path, 1, api.ErrFull)
	plans(t, b, path, path)
	stays(t, b, func() { stops(t, b, path, 0, api.ErrFull) })
	off(t, d)
	stays(t, b, func() { stops(t, b, path, 0, api.ErrCrash) })
	// All else is ahead of it.
	b = falls(t, d)
	bad := adds(t, b, made("bad", "fail x"))
	sum := made("sum", "")
	sum.Fixed = strings.Repeat("0", 64)
	wrong := adds(t, b, sum)
	off(t, d)
	stops(t, b, bad, 0, api.ErrThrow)
	stops(t, b, wrong, 0, api.ErrSum)
	realises(t, b, small, 0)
	errs(t, b, "x", api.ErrText)
	// In the store all stands two deeper.
	_, b = fresh(t, 200)
	recipe := func(depth int) string {
		var l []string
		for i := range depth {
			l = append(l, "mkdir d"+strings.Repeat("/d", i))
		}
		return strings.Join(l, "\n")
	}
	refuses(t, b, made("a", recipe(api.MaxDepth-1)), api.ErrLong)
	makes(t, b, made("b", recipe(api.MaxDepth-2)), samples.Deep(api.MaxDepth-2, dir()))
	refuses(t, b, made("c", recipe(api.MaxDepth)), api.ErrLong)
}

// TestP18_3_Limits: a derivation that needs as many as it may, and reads them all.
func TestP18_3_Limits(t *testing.T) {
	d, b := fresh(t, 2000)
	x := api.Drv{Name: strings.Repeat("n", api.MaxName-4)}
	var lines []string
	want := dir()
	for i := range api.MaxInputs {
		name := strings.Repeat("i", i+1)
		path := adds(t, b, made(name, "write f "+name))
		x.Drvs = append(x.Drvs, path)
		lines = append(lines, "copy "+outOf(t, b, path)+" f "+name)
		want.Names, want.Kids = append(want.Names, name), append(want.Kids, file(name))
	}
	for i := range api.MaxInputs {
		name := strings.Repeat("s", i+1)
		path := addsTree(t, b, name, file(name))
		x.Sources = append(x.Sources, path)
		lines = append(lines, "copy "+path+` "" `+name)
		want.Names, want.Kids = append(want.Names, name), append(want.Kids, file(name))
	}
	x.Drvs, x.Sources = rising(x.Drvs...), rising(x.Sources...)
	x.Recipe = strings.Join(lines, "\n")
	path := adds(t, b, x)
	plans(t, b, path, append(slices.Clone(x.Drvs), path)...)
	out := realises(t, b, path, api.MaxInputs+1)
	has(t, falls(t, d), out, want, path)
}

// TestP18_3_LostInput: what others have taken away can't be read, and all else can.
func TestP18_3_LostInput(t *testing.T) {
	_, b := fresh(t, 100)
	lost, src := addsTree(t, b, "lost", file("x")), addsTree(t, b, "src", file("y"))
	is(t, "Do", b.FS().Do([]api.Edit{{Kind: api.ODrop, Path: "store/" + lost}}), api.OK)
	path := adds(t, b, made("a", "copy "+lost+` "" f`, lost, src))
	if out, n, e := realise.Realise(b, path); out != "" || n != 0 || e != api.ErrName {
		t.Errorf("Realise = %q, %d, %d", out, n, e)
	}
	path = adds(t, b, made("a", "copy "+src+` "" f`, lost, src))
	if _, n, e := realise.Realise(b, path); n != 1 || e != api.OK {
		t.Errorf("Realise = %d, %d", n, e)
	}
	// A source that isn't valid, of a derivation that came by another way.
	x := made("b", "copy "+pathOf("1", "x")+` "" f`, pathOf("1", "x"))
	at, _ := drv.Path(x)
	registers(t, b, at, textOf(t, x))
	if out, n, e := realise.Realise(b, at); out != "" || n != 0 || e != api.ErrName {
		t.Errorf("Realise = %q, %d, %d", out, n, e)
	}
}

// TestP6_WhateverElse: what is made is the same, whatever else a store has.
func TestP6_WhateverElse(t *testing.T) {
	_, b := fresh(t, 400)
	_, c := fresh(t, 400)
	for _, word := range []string{"1", "2", "3"} {
		realises(t, c, adds(t, c, made("base", "write f "+word)), 1)
	}
	for _, name := range []string{"base", "lib", "tool", "app", "f"} {
		addsTree(t, c, name, file(name))
		registers(t, c, pathOf("9", name), dir("f", file(name)), pathOf("9", name))
	}
	l := addsAll(t, b, diamond)
	addsAll(t, c, diamond)
	realises(t, b, l["app"].Path, 4)
	realises(t, c, l["tool"].Path, 2)
	realises(t, c, l["app"].Path, 2)
	for _, x := range l {
		info, _ := b.Info(x.Out)
		u, _ := b.Tree(x.Out)
		has(t, c, x.Out, u, info.From, info.Refs...)
	}
}

func TestP18_4_Nil(t *testing.T) {
	for _, path := range []string{"", "x", pathOf("0", "a"), pathOf("0", "a.drv")} {
		if d, e := realise.Get(nil, path); e != api.ErrNone || !sameDrv(d, api.Drv{}) {
			t.Errorf("Get = %v, %d", d, e)
		}
		if out, e := realise.Out(nil, path); e != api.ErrNone || out != "" {
			t.Errorf("Out = %s, %d", out, e)
		}
		if l, e := realise.Plan(nil, path); e != api.ErrNone || len(l) > 0 {
			t.Errorf("Plan = %v, %d", l, e)
		}
		if out, n, e := realise.Realise(nil, path); e != api.ErrNone || n != 0 || out != "" {
			t.Errorf("Realise = %s, %d, %d", out, n, e)
		}
	}
	for _, d := range append(wrongDrvs(), made("a", ""), made("a", "", pathOf("0", "a.drv"))) {
		if path, e := realise.Add(nil, d); e != api.ErrNone || path != "" {
			t.Errorf("Add = %s, %d", path, e)
		}
	}
	for _, name := range []string{"", "a", "a b"} {
		for _, x := range []api.Tree{{}, file("x"), link("")} {
			if path, e := realise.AddTree(nil, name, x); e != api.ErrNone || path != "" {
				t.Errorf("AddTree = %s, %d", path, e)
			}
		}
	}
}

// TestP1_ZeroDBEnds: nothing is promised of it but that no call panics.
func TestP1_ZeroDBEnds(t *testing.T) {
	var b valid.DB
	realise.Add(&b, made("a", ""))
	realise.Add(&b, made("a", "", pathOf("0", "a.drv"), pathOf("0", "a")))
	realise.AddTree(&b, "a", file("x"))
	realise.Get(&b, pathOf("0", "a.drv"))
	realise.Out(&b, pathOf("0", "a.drv"))
	realise.Plan(&b, pathOf("0", "a.drv"))
	realise.Realise(&b, pathOf("0", "a.drv"))
}

// TestP1_AnythingEnds: what is handed in may be as deep, as wide or as long as may be.
func TestP1_AnythingEnds(t *testing.T) {
	_, b := fresh(t, 60)
	for name, x := range map[string]api.Tree{"deep": samples.Deep(200000, file("")), "wide": samples.Wide(100000), "zero": {}} {
		failsTree(t, b, name, x, api.ErrForm)
	}
	many := slices.Repeat([]string{pathOf("0", "a.drv")}, 200000)
	fails(t, b, api.Drv{Name: "a", Drvs: many}, api.ErrForm)
	fails(t, b, api.Drv{Name: "a", Sources: many}, api.ErrForm)
	fails(t, b, made("a", strings.Repeat("x", 1<<24)), api.ErrForm)
	errs(t, b, strings.Repeat("x", 1<<24), api.ErrText)
	for c := range 256 {
		errs(t, b, pathOf(string([]byte{byte(c)}), "a"), api.ErrText)
	}
}

// TestP2_AnswersAreNewMemory: whoever writes over an answer changes nothing but that.
func TestP2_AnswersAreNewMemory(t *testing.T) {
	_, b := fresh(t, 100)
	l := addsAll(t, b, diamond)
	want := inOrder(l, "base", "lib", "tool", "app")
	for range 2 {
		plan, _ := realise.Plan(b, l["app"].Path)
		plan = plan[:cap(plan)]
		for i := range plan {
			plan[i] = "#"
		}
		plans(t, b, l["app"].Path, want...)
	}
	was := b.FS().Tree()
	realises(t, b, l["app"].Path, 4)
	for i, name := range []string{"app", "lib", "tool", "base"} {
		is(t, "Remove", b.Remove(l[name].Out), api.OK)
		if (i == 3) != tree.Same(b.FS().Tree(), was) {
			t.Error("something else has changed")
		}
	}
}
