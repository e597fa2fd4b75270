package recipe_test

import (
	"bytes"
	"runtime/debug"
	"slices"
	"strconv"
	"strings"
	"testing"

	"staddle/api"
	"staddle/recipe"
	"staddle/samples"
	"staddle/tree"
)

var file, tool, link, dir = samples.File, samples.Tool, samples.Link, samples.Dir

// own is what out is in most tests.
const own = "0a1b2c3d4f5g6h7i8j9k0l1m2n3p4q5r-own"

// inputs are what may be read in most tests: one path stands there twice, and one has what is no tree.
func inputs() []api.Input {
	return []api.Input{
		{Path: "lib", Tree: dir("bin", dir("run", tool("#!run")), "l", link("bin/run"), "text", file("aXbXc"))},
		{Path: "one", Tree: file("only a file")},
		{Path: "two", Tree: link("to")},
		{Path: "one", Tree: file("a second one")},
		{Path: own, Tree: file("own")},
		{Path: "", Tree: file("no path")},
		{Path: "bad", Tree: dir("ok", file("ok"), "bad", link(""), "f", dir("a", file(""), "a", file("")))},
	}
}

// steps: those of a recipe that has no fault.
func steps(t *testing.T, s string) []api.Step {
	t.Helper()
	l, place, e := recipe.Parse(s)
	if e != api.OK {
		t.Fatalf("Parse(%.300q): %d, %d", s, place, e)
	}
	return l
}

// makes fails where steps make something else.
func makes(t *testing.T, l []api.Step, want api.Tree) {
	t.Helper()
	x, n, e := recipe.Run(l, own, inputs())
	if e != api.OK || n != len(l) || !tree.Same(x, want) {
		t.Errorf("Run(%.300q) = %.300v, %d, %d, and not %.300v, %d", l, x, n, e, want, len(l))
	}
}

// does fails where a recipe makes something else.
func does(t *testing.T, s string, want api.Tree) {
	t.Helper()
	makes(t, steps(t, s), want)
}

// stops fails where steps have another fault, or that at another step.
func stops(t *testing.T, l []api.Step, place int, fault api.Errno) {
	t.Helper()
	x, n, e := recipe.Run(l, own, inputs())
	if e != fault || n != place || !tree.Same(x, api.Tree{}) {
		t.Errorf("Run(%.300q) = %.300v, %d, %d, and not %d, %d", l, x, n, e, place, fault)
	}
}

// fails fails where the last step of a recipe has another fault, or one ahead of it has one.
func fails(t *testing.T, s string, fault api.Errno) {
	t.Helper()
	l := steps(t, s)
	stops(t, l, len(l)-1, fault)
	l = append(l, step(api.RFail, "behind"), step(9))
	stops(t, l, len(l)-3, fault)
}

func TestP12_2_Examples(t *testing.T) {
	does(t, "write f a\nappend f b\nexec f", dir("f", tool("ab")))
	x, n, e := recipe.Run(nil, "", nil)
	if e != api.OK || n != 0 || !tree.Same(x, dir()) {
		t.Errorf("Run of nothing = %v, %d, %d", x, n, e)
	}
	does(t, "", dir())
	does(t, "mkdir bin\nwrite bin/run \"#!/bin/sh\\nexec @lib@/run\\n\"\nswap bin/run @lib@ lib\nexec bin/run\nlink start bin/run\ncopy lib bin bin/lib\nwrite note \"made at \"\nappend note @out@",
		dir("bin", dir("lib", dir("run", tool("#!run")), "run", tool("#!/bin/sh\nexec lib/run\n")), "note", file("made at "+own), "start", link("bin/run")))
}

func TestP12_2_Form(t *testing.T) {
	for _, f := range forms {
		for n := range 6 {
			if n != f.n {
				stops(t, []api.Step{step(f.kind, make([]string, n)...)}, 0, api.ErrForm)
				stops(t, []api.Step{step(api.RMkdir, "a"), step(f.kind, slices.Repeat([]string{"a"}, n)...)}, 1, api.ErrForm)
			}
		}
	}
	for _, kind := range []byte{0, 9, 10, 128, 255} {
		for n := range 5 {
			stops(t, []api.Step{step(kind, make([]string, n)...)}, 0, api.ErrForm)
			stops(t, []api.Step{step(api.RWrite, "f", "x"), step(api.RExec, "f"), step(kind, slices.Repeat([]string{"f"}, n)...)}, 2, api.ErrForm)
		}
	}
	// Of several the first, and a step is not looked at ahead of its turn.
	stops(t, []api.Step{step(api.RFail, "a"), step(0)}, 0, api.ErrThrow)
	stops(t, []api.Step{step(0), step(api.RFail, "a")}, 0, api.ErrForm)
}

func TestP12_2_Mkdir(t *testing.T) {
	does(t, "mkdir a\nmkdir a/b\nmkdir a/b/c\nmkdir b", dir("a", dir("b", dir("c", dir())), "b", dir()))
	fails(t, "mkdir a\nmkdir a", api.ErrExists)
	fails(t, "write a x\nmkdir a", api.ErrExists)
	fails(t, "link a x\nmkdir a", api.ErrExists)
	fails(t, "mkdir a/b", api.ErrNone)
	fails(t, "write a x\nmkdir a/b", api.ErrKind)
	fails(t, "mkdir b\nlink a b\nmkdir a/b", api.ErrKind)
}

func TestP12_2_Write(t *testing.T) {
	does(t, "write a x", dir("a", file("x")))
	does(t, `write a ""`, dir("a", file("")))
	does(t, "write a x\nwrite a y", dir("a", file("y")))
	does(t, "write a x\nexec a\nwrite a y", dir("a", file("y")))
	does(t, "mkdir a\nwrite a/b x\nwrite a y", dir("a", file("y")))
	does(t, "link a x\nwrite a y", dir("a", file("y")))
	does(t, "mkdir a\nwrite a/b x\nwrite a/c y\nwrite 0 z", dir("0", file("z"), "a", dir("b", file("x"), "c", file("y"))))
	fails(t, "write a/b x", api.ErrNone)
	fails(t, "write a x\nwrite a/b x", api.ErrKind)
}

func TestP12_2_Link(t *testing.T) {
	does(t, "link a ../b//c/.", dir("a", link("../b//c/.")))
	does(t, "write a x\nlink a y\nmkdir b\nlink b z", dir("a", link("y"), "b", link("z")))
	does(t, "link a "+strings.Repeat("t", api.MaxPath), dir("a", link(strings.Repeat("t", api.MaxPath))))
	fails(t, "link a "+strings.Repeat("t", api.MaxPath+1), api.ErrForm)
	fails(t, `link a ""`, api.ErrForm)
	fails(t, "link a x\x00y", api.ErrForm)
	// Form goes ahead of where it would stand, and behind what its path is.
	fails(t, `link a/b ""`, api.ErrForm)
	fails(t, `write a x`+"\n"+`link a/b ""`, api.ErrForm)
	fails(t, `link "" ""`, api.ErrArg)
	fails(t, `link a//b ""`, api.ErrText)
	fails(t, "link a/b x", api.ErrNone)
}

func TestP12_2_Copy(t *testing.T) {
	lib := inputs()[0].Tree
	does(t, `copy lib "" a`, dir("a", lib))
	does(t, "copy lib bin/run a", dir("a", tool("#!run")))
	does(t, "copy lib bin a\ncopy lib l a/l\ncopy lib text a/run", dir("a", dir("l", link("bin/run"), "run", file("aXbXc"))))
	does(t, `copy two "" a`+"\n"+`copy one "" b`, dir("a", link("to"), "b", file("only a file")))
	does(t, "mkdir a\nwrite a/b c\ncopy lib text a", dir("a", file("aXbXc")))
	// Of several with one path it is the first.
	does(t, `copy one "" a`, dir("a", file("only a file")))
	does(t, `copy "" "" a`, dir("a", file("no path")))
	does(t, "copy bad ok a", dir("a", file("ok")))
	for _, s := range []string{"copy li text a", "copy libs text a", "copy Lib text a", "copy lib/text text a", `copy " lib" text a`, "copy none none a//b", `copy none "" ""`, `copy none "" a/b`} {
		fails(t, s, api.ErrName)
	}
	// What stands in the input goes ahead of where it is put.
	for s, e := range map[string]api.Errno{
		"none": api.ErrNone, "bin/none": api.ErrNone, "none/run": api.ErrNone, "text/x": api.ErrKind, "bin/run/x": api.ErrKind, "l/x": api.ErrKind, "l/run": api.ErrKind,
		"/": api.ErrText, "bin/": api.ErrText, "..": api.ErrText, "bin/../text": api.ErrText, "none//": api.ErrText, strings.Repeat("n", api.MaxEntry+1): api.ErrText, strings.Repeat("n", api.MaxPath+1): api.ErrLong,
	} {
		for _, to := range []string{"a", `""`, "a//b", "a/b", strings.Repeat("n", api.MaxPath+1)} {
			fails(t, "copy lib "+s+" "+to, e)
		}
	}
	fails(t, `copy one x a`, api.ErrKind)
	for _, s := range []string{`""`, "bad", "f"} {
		fails(t, "copy bad "+s+" a", api.ErrForm)
		fails(t, "copy bad "+s+" a/b", api.ErrForm)
		fails(t, "copy bad "+s+` ""`, api.ErrArg)
	}
	fails(t, `copy lib "" a/b`, api.ErrNone)
	fails(t, "write a x\n"+`copy lib "" a/b`, api.ErrKind)
	for _, x := range samples.Wrong() {
		_, n, e := recipe.Run([]api.Step{step(api.RCopy, "w", "", "a")}, own, []api.Input{{Path: "w", Tree: x}})
		if e != api.ErrForm || n != 0 {
			t.Errorf("copy of %.300v: %d, %d", x, n, e)
		}
	}
}

func TestP12_2_Append(t *testing.T) {
	does(t, "write a x\nappend a y\nappend a \"\"\nappend a zz", dir("a", file("xyzz")))
	does(t, "mkdir d\nwrite d/a x\nexec d/a\nappend d/a y", dir("d", dir("a", tool("xy"))))
	does(t, "copy lib text a\nappend a d", dir("a", file("aXbXcd")))
	does(t, "copy lib bin a\nappend a/run \"\\n\"", dir("a", dir("run", tool("#!run\n"))))
}

func TestP12_2_Exec(t *testing.T) {
	does(t, "write a x\nexec a\nexec a", dir("a", tool("x")))
	does(t, "copy lib \"\" a\nexec a/text", dir("a", dir("bin", dir("run", tool("#!run")), "l", link("bin/run"), "text", tool("aXbXc"))))
}

func TestP12_2_Swap(t *testing.T) {
	for _, c := range [][4]string{
		{"aXbXc", "X", "-", "a-b-c"},
		{"aXbXc", "X", "XX", "aXXbXXc"},
		{"aXbXc", "x", "-", "aXbXc"},
		{"aXbXc", "aXbXc", "", ""},
		{"aXbXc", "aXbXcd", "-", "aXbXc"},
		{"aaa", "aa", "b", "ba"},
		{"aaaaa", "aa", "aaa", "aaaaaaa"},
		{"ababa", "aba", "x", "xba"},
		{"aabb", "ab", "", "ab"},
		{"", "a", "b", ""},
		{"abc", "abc", "abc", "abc"},
		{"a.b*c", ".", "*", "a*b*c"},
		{"a\n\x00\xff", "\n\x00", "$1", "a$1\xff"},
	} {
		makes(t, []api.Step{step(api.RWrite, "f", c[0]), step(api.RSwap, "f", c[1], c[2])}, dir("f", file(c[3])))
		makes(t, []api.Step{step(api.RWrite, "f", c[0]), step(api.RExec, "f"), step(api.RSwap, "f", c[1], c[2])}, dir("f", tool(c[3])))
	}
	fails(t, `write f x`+"\n"+`swap f "" y`, api.ErrArg)
	fails(t, `write f ""`+"\n"+`swap f "" ""`, api.ErrArg)
	makes(t, []api.Step{step(api.RWrite, "f", "é"), step(api.RSwap, "f", "\xc3", "\xa9")}, dir("f", file("\xa9\xa9")))
}

// TestP12_2_NoFile: what a file is asked of has tree.At's errors, and ErrKind; both go ahead of what is asked.
func TestP12_2_NoFile(t *testing.T) {
	ahead := "mkdir d\nwrite d/f x\nlink l d/f\n"
	for _, s := range []string{"append %s y", "exec %s", "swap %s x y", `swap %s "" y`} {
		for path, e := range map[string]api.Errno{
			"d": api.ErrKind, "l": api.ErrKind, `""`: api.ErrKind, "d/f/x": api.ErrKind, "l/f": api.ErrKind, "n": api.ErrNone, "d/n": api.ErrNone, "n/f": api.ErrNone,
			"/": api.ErrText, "d/": api.ErrText, ".": api.ErrText, "n/..": api.ErrText, strings.Repeat("n", api.MaxPath+1): api.ErrLong, strings.Repeat("n", api.MaxEntry+1): api.ErrText,
		} {
			fails(t, ahead+strings.Replace(s, "%s", path, 1), e)
		}
	}
}

func TestP12_2_Paths(t *testing.T) {
	for _, s := range []string{"mkdir %s", "write %s x", "link %s x", "copy lib text %s"} {
		for path, e := range map[string]api.Errno{
			`""`: api.ErrArg, "/": api.ErrText, "/a": api.ErrText, "a/": api.ErrText, "a//b": api.ErrText, ".": api.ErrText, "./a": api.ErrText, "..": api.ErrText, "a/..": api.ErrText, "a\x00": api.ErrText,
			strings.Repeat("n", api.MaxEntry+1): api.ErrText, strings.Repeat("/", api.MaxPath): api.ErrText, strings.Repeat("/", api.MaxPath+1): api.ErrLong, strings.Repeat("a/", api.MaxPath/2) + "a": api.ErrLong,
		} {
			fails(t, "mkdir x\n"+strings.Replace(s, "%s", path, 1), e)
		}
	}
	name := strings.Repeat("n", api.MaxEntry)
	does(t, "write "+name+" x", dir(name, file("x")))
	makes(t, []api.Step{step(api.RWrite, "...", "x"), step(api.RWrite, " \xff\n", "y")}, dir(" \xff\n", file("y"), "...", file("x")))
}

func TestP12_2_Fail(t *testing.T) {
	fails(t, "fail why", api.ErrThrow)
	fails(t, `mkdir a`+"\n"+`fail ""`, api.ErrThrow)
	fails(t, "write a x\nfail "+strings.Repeat("y", 5000), api.ErrThrow)
	stops(t, []api.Step{step(api.RFail, "a"), step(api.RFail, "b")}, 0, api.ErrThrow)
	stops(t, []api.Step{step(api.RMkdir, "a"), step(api.RMkdir, "a"), step(api.RFail, "b")}, 1, api.ErrExists)
}

// TestP12_2_Out: in all words of all steps each @out@ is out.
func TestP12_2_Out(t *testing.T) {
	does(t, "mkdir @out@\nmkdir @out@/@out@", dir(own, dir(own, dir())))
	does(t, "write @out@ x@out@y\nappend @out@ @out@@out@\nexec @out@", dir(own, tool("x"+own+"y"+own+own)))
	does(t, "link @out@ /@out@/x", dir(own, link("/"+own+"/x")))
	does(t, `copy @out@ "" @out@`, dir(own, file("own")))
	fails(t, "copy lib @out@ a", api.ErrNone)
	does(t, "write f @out@\nswap f @out@ x@out@", dir("f", file("x"+own)))
	fails(t, "fail @out@", api.ErrThrow)
	// From the left; what is no @out@ stays; what out itself has, too.
	for word, want := range map[string]string{
		"@out": "@out", "out@": "out@", "@Out@": "@Out@", "@@out@@": "@%@", "@out@out@": "%out@", "@out@out@out@": "%out%", "@ou@out@t@": "@ou%t@", "@out@@out@": "%%", "@@out@out@": "@%out@", "": "",
	} {
		for _, out := range []string{own, "", "x", "@out@", "@", "@out", "out@", "@out@@out@", "t@"} {
			x, n, e := recipe.Run([]api.Step{step(api.RWrite, "f", word)}, out, nil)
			if data := strings.ReplaceAll(want, "%", out); e != api.OK || n != 1 || !tree.Same(x, dir("f", file(data))) {
				t.Errorf("%q with %q = %v, %d, %d, and not %q", word, out, x, n, e, data)
			}
		}
	}
	// How long a word is, or whether it is empty, is asked of what it is then.
	run := func(out string, fault api.Errno, l ...api.Step) {
		t.Helper()
		if _, n, e := recipe.Run(l, out, []api.Input{{Path: "lib" + out, Tree: dir(out, file("x"))}}); e != fault || fault != api.OK && n != len(l)-1 || fault == api.OK && n != len(l) {
			t.Errorf("Run(%.300q, %.300q) = %d, %d, and not %d", l, out, n, e, fault)
		}
	}
	run("", api.ErrArg, step(api.RMkdir, "@out@"))
	run("", api.ErrForm, step(api.RLink, "a", "@out@"))
	run("", api.ErrArg, step(api.RWrite, "a", "x"), step(api.RSwap, "a", "@out@", "y"))
	run("", api.OK, step(api.RMkdir, "a@out@"))
	run("", api.OK, step(api.RMkdir, strings.Repeat("@out@", 100000)+"a"))
	run("a", api.OK, step(api.RMkdir, strings.Repeat("@out@", api.MaxEntry)))
	run("a", api.ErrText, step(api.RMkdir, strings.Repeat("@out@", api.MaxEntry+1)))
	run("a", api.ErrText, step(api.RMkdir, strings.Repeat("@out@", api.MaxPath)))
	run("a", api.ErrLong, step(api.RMkdir, strings.Repeat("@out@", api.MaxPath+1)))
	run("a", api.OK, step(api.RCopy, "lib@out@", "@out@", "a"))
	run("a/b", api.ErrNone, step(api.RCopy, "lib@out@", "@out@", "a"))
	run("a//b", api.ErrText, step(api.RCopy, "lib@out@", "@out@", "a"))
	run(strings.Repeat("x", 1<<20), api.ErrLong, step(api.RCopy, "lib@out@", "@out@", "a"))
	run(strings.Repeat("x", 1<<20), api.ErrName, step(api.RCopy, "lib@out@x", "@out@", "a"))
	run(strings.Repeat("x", 1<<20), api.ErrName, step(api.RCopy, "lib@out@@out@", "@out@", "a"))
}

// TestP12_2_PathsOfInputs: they are no paths for recipe; of any bytes, and as long as they come.
func TestP12_2_PathsOfInputs(t *testing.T) {
	long := strings.Repeat("p", 1<<20)
	for _, path := range []string{"", "a b", "/", "\x00", "@out@", own + own, long, long + own} {
		in := []api.Input{{Path: path + "x", Tree: file("wrong")}, {Path: path, Tree: file("right")}, {Path: path, Tree: file("late")}}
		word := strings.ReplaceAll(path, own, "@out@")
		x, _, e := recipe.Run([]api.Step{step(api.RCopy, word, "", "f")}, own, in)
		if path == "@out@" { // no word is that
			if e != api.ErrName {
				t.Errorf("copy of @out@: %d", e)
			}
			continue
		}
		if e != api.OK || !tree.Same(x, dir("f", file("right"))) {
			t.Errorf("copy of %.300q = %.300v, %d", path, x, e)
		}
	}
}

func TestP12_2_MaxData(t *testing.T) {
	most := strings.Repeat("x", api.MaxData)
	ones := file(most)
	makes(t, []api.Step{step(api.RWrite, "f", most)}, dir("f", ones))
	makes(t, []api.Step{step(api.RWrite, "f", most[1:]), step(api.RAppend, "f", "x"), step(api.RAppend, "f", "")}, dir("f", ones))
	// One file with too much is no tree; two files with too much are too much.
	stops(t, []api.Step{step(api.RWrite, "f", most+"x")}, 0, api.ErrForm)
	stops(t, []api.Step{step(api.RWrite, "f", most), step(api.RAppend, "f", "x")}, 1, api.ErrForm)
	stops(t, []api.Step{step(api.RWrite, "f", most), step(api.RWrite, "g", "x")}, 1, api.ErrLong)
	stops(t, []api.Step{step(api.RWrite, "f", most), step(api.RLink, "g", "x")}, 1, api.ErrLong)
	stops(t, []api.Step{step(api.RWrite, "f", most[1:]), step(api.RWrite, "g", "x"), step(api.RAppend, "g", "x")}, 2, api.ErrLong)
	stops(t, []api.Step{step(api.RWrite, "f", most[5:]), step(api.RCopy, "lib", "bin", "g"), step(api.RCopy, "lib", "bin", "h")}, 2, api.ErrLong)
	makes(t, []api.Step{step(api.RWrite, "f", most), step(api.RWrite, "g", ""), step(api.RMkdir, "h"), step(api.RWrite, "f", ""), step(api.RWrite, "g", most)}, dir("f", file(""), "g", ones, "h", dir()))
	// Form goes ahead of where it would stand.
	stops(t, []api.Step{step(api.RWrite, "a/b", most+"x")}, 0, api.ErrForm)
	stops(t, []api.Step{step(api.RWrite, "a/b", most)}, 0, api.ErrNone)
}

func TestP12_2_SwapLong(t *testing.T) {
	text := func(n int) string { return strings.Repeat("x", n) }
	swapped := func(data, old, with string, want api.Errno, made string) {
		t.Helper()
		l := []api.Step{step(api.RWrite, "f", data), step(api.RSwap, "f", old, with)}
		if want == api.OK {
			makes(t, l, dir("f", file(made)))
		} else {
			stops(t, l, 1, want)
		}
	}
	swapped("a", "a", text(api.MaxData), api.OK, text(api.MaxData))
	swapped("ab", "a", text(api.MaxData), api.ErrForm, "")
	swapped("a", "a", text(api.MaxData+1), api.ErrForm, "")
	swapped("a", "a", text(2*api.MaxData), api.ErrForm, "")
	swapped("a", "a", text(2*api.MaxData+1), api.ErrLong, "")
	swapped("a", "a", text(100*api.MaxData), api.ErrLong, "")
	swapped("aa", "a", text(api.MaxData), api.ErrForm, "")
	swapped("aa", "a", text(api.MaxData+1), api.ErrLong, "")
	swapped("aa", "a", text(api.MaxData/2), api.OK, text(api.MaxData))
	swapped("aba", "a", text(2*api.MaxData), api.ErrLong, "")
	swapped(strings.Repeat("a", api.MaxData), "a", "xx", api.ErrForm, "")
	swapped(strings.Repeat("a", api.MaxData), "a", "xxx", api.ErrLong, "")
	swapped(strings.Repeat("a", api.MaxData), "a", "x", api.OK, text(api.MaxData))
	swapped(strings.Repeat("a", api.MaxData), "a", text(api.MaxData), api.ErrLong, "")
	swapped(strings.Repeat("a", api.MaxData), "aa", "xx", api.OK, text(api.MaxData))
	swapped(strings.Repeat("a", api.MaxData), strings.Repeat("a", api.MaxData), "x", api.OK, "x")
	// What isn't there may be as long as it likes, and so may be what would be in its place.
	swapped("b", "a", text(3*api.MaxData), api.OK, "b")
	swapped("b", strings.Repeat("b", 3*api.MaxData), text(3*api.MaxData), api.OK, "b")
	swapped(strings.Repeat("a", api.MaxData), strings.Repeat("a", api.MaxData+1), "x", api.OK, strings.Repeat("a", api.MaxData))
	// Emptiness goes first.
	swapped("b", "", text(3*api.MaxData), api.ErrArg, "")
	// The whole tree has too much.
	stops(t, []api.Step{step(api.RWrite, "e", "x"), step(api.RWrite, "f", "a"), step(api.RSwap, "f", "a", text(api.MaxData))}, 2, api.ErrLong)
}

func TestP12_2_MaxNodesAndDepth(t *testing.T) {
	in := []api.Input{{Path: "w", Tree: samples.Wide(api.MaxNodes - 2)}, {Path: "d", Tree: samples.Deep(api.MaxDepth-1, file(""))}, {Path: "full", Tree: samples.Wide(api.MaxNodes - 1)}}
	run := func(place int, fault api.Errno, l ...api.Step) {
		t.Helper()
		if _, n, e := recipe.Run(l, own, in); e != fault || n != place {
			t.Errorf("Run(%.300q) = %d, %d, and not %d, %d", l, n, e, place, fault)
		}
	}
	wide := step(api.RCopy, "w", "", "a")
	run(1, api.OK, wide)
	for _, x := range []api.Step{step(api.RMkdir, "b"), step(api.RWrite, "b", ""), step(api.RLink, "b", "x")} {
		run(1, api.ErrLong, wide, x)
		run(3, api.OK, wide, step(api.RWrite, "a", ""), x)
	}
	run(1, api.ErrLong, wide, step(api.RWrite, "a/b", ""))
	run(0, api.ErrLong, step(api.RCopy, "full", "", "a"))
	run(1, api.OK, step(api.RCopy, "d", "", "a"))
	run(1, api.ErrLong, step(api.RMkdir, "a"), step(api.RCopy, "d", "", "a/a"))
	run(2, api.OK, step(api.RMkdir, "a"), step(api.RCopy, "d", "d", "a/a"))
	path, l := "", []api.Step(nil)
	for range api.MaxDepth {
		path += "/n"
		l = append(l, step(api.RMkdir, path[1:]))
	}
	run(api.MaxDepth, api.OK, l...)
	run(api.MaxDepth, api.ErrLong, append(l, step(api.RMkdir, path[1:]+"/n"))...)
	run(api.MaxDepth, api.ErrLong, append(l, step(api.RWrite, path[1:]+"/n", ""))...)
}

// TestP12_2_MoreThanMaxSteps: that many are Parse's limit, not Run's.
func TestP12_2_MoreThanMaxSteps(t *testing.T) {
	l := []api.Step{step(api.RWrite, "f", "")}
	for range 5 * api.MaxSteps {
		l = append(l, step(api.RAppend, "f", "x"))
	}
	makes(t, l, dir("f", file(strings.Repeat("x", 5*api.MaxSteps))))
	stops(t, append(l, step(api.RFail, "")), len(l), api.ErrThrow)
}

// TestP1_WordsWithoutEnd: words that would be larger than any memory, each @out@ in them being out.
func TestP1_WordsWithoutEnd(t *testing.T) {
	out := strings.Repeat("o", 1<<20)
	word := strings.Repeat("@out@", 1<<20)
	ahead := step(api.RWrite, "f", "o")
	for _, c := range []struct {
		x api.Step
		e api.Errno
	}{
		{step(api.RMkdir, word), api.ErrLong},
		{step(api.RWrite, word, ""), api.ErrLong},
		{step(api.RWrite, "a", word), api.ErrForm},
		{step(api.RAppend, "f", word), api.ErrForm},
		{step(api.RAppend, word, "x"), api.ErrLong},
		{step(api.RCopy, word, "", "a"), api.ErrName},
		{step(api.RCopy, "one", word, "a"), api.ErrLong},
		{step(api.RCopy, "one", "", word), api.ErrLong},
		{step(api.RLink, "a", word), api.ErrForm},
		{step(api.RExec, word), api.ErrLong},
		{step(api.RSwap, "f", "o", word), api.ErrLong},
		{step(api.RSwap, "f", word, word), api.OK},
		{step(api.RSwap, "f", "x", word), api.OK},
		{step(api.RFail, word), api.ErrThrow},
	} {
		x, n, e := recipe.Run([]api.Step{ahead, c.x}, out, inputs())
		if e != c.e || e != api.OK && n != 1 || e == api.OK && !tree.Same(x, dir("f", file("o"))) {
			t.Errorf("the step %d with %.20q = %.100v, %d, %d, and not %d", c.x.Kind, c.x.Args, x, n, e, c.e)
		}
	}
}

func TestP1_WrongInputsEnd(t *testing.T) {
	defer debug.SetMaxStack(debug.SetMaxStack(1 << 20))
	for _, x := range samples.Wrong() {
		for _, from := range []string{"", "a", "a/q", "b", "d/d", "p", "a/a"} {
			in := []api.Input{{Path: "w", Tree: x}}
			recipe.Run([]api.Step{step(api.RCopy, "w", from, "a"), step(api.RExec, "a"), step(api.RSwap, "a", "x", "y")}, own, in)
		}
	}
	in := []api.Input{{Path: "w", Tree: samples.Deep(50000, file("x"))}}
	if _, _, e := recipe.Run([]api.Step{step(api.RCopy, "w", "", "a")}, own, in); e != api.ErrForm {
		t.Errorf("copy of what is far too deep: %d", e)
	}
	// The largest trees, as often as a recipe may say so.
	in[0].Tree = dir("a", samples.Wide(api.MaxNodes-5), "b", file(strings.Repeat("x", api.MaxData)))
	l := slices.Repeat([]api.Step{step(api.RCopy, "w", "", "a"), step(api.RSwap, "a/b", "x", "y")}, api.MaxSteps/2)
	if _, n, e := recipe.Run(l, own, in); e != api.OK || n != api.MaxSteps {
		t.Errorf("copies of the largest tree: %d, %d", n, e)
	}
}

// TestP6_NothingElseIsRead: what is made is the same, whatever other inputs there are, and however they stand.
func TestP6_NothingElseIsRead(t *testing.T) {
	l := steps(t, `copy lib "" a`+"\n"+`copy one "" b`+"\nwrite c @out@")
	want, _, e := recipe.Run(l, own, inputs())
	if e != api.OK {
		t.Fatalf("Run: %d", e)
	}
	turned := inputs()
	slices.Reverse(turned[2:])
	turned = append(turned, api.Input{Path: "lib", Tree: file("late")}, api.Input{Path: "c", Tree: file("c")}, api.Input{Path: "@out@", Tree: file("d")}, api.Input{})
	for _, in := range [][]api.Input{turned, inputs()[:2], {inputs()[1], inputs()[0]}, append([]api.Input{{Path: "x"}, {}}, inputs()...)} {
		if x, n, e := recipe.Run(l, own, in); e != api.OK || n != len(l) || !tree.Same(x, want) {
			t.Errorf("Run = %v, %d, %d, and not %v", x, n, e, want)
		}
	}
	if x, n, e := recipe.Run(l, own, inputs()[1:]); e != api.ErrName || n != 0 || !tree.Same(x, api.Tree{}) {
		t.Errorf("Run without lib = %v, %d, %d", x, n, e)
	}
}

func TestP2_WhatIsHandedInStays(t *testing.T) {
	was := dir("f", file("text"), "d", dir())
	was.Names, was.Kids = []string{"d", "f"}, []api.Tree{dir(), file("text")}
	in := append(make([]api.Input, 0, 4), api.Input{Path: "i", Tree: samples.Roomy(was)})
	in[:2][1].Path = "spare"
	args := append(make([]string, 0, 9), "i", "", "a", "spare")[:3]
	l := []api.Step{{Kind: api.RCopy, Args: args}, step(api.RAppend, "a/f", "@out@"), step(api.RSwap, "a/f", "t", "T"), step(api.RExec, "a/f"), step(api.RMkdir, "a/d/e"), step(api.RCopy, "i", "f", "f"), step(api.RAppend, "f", "!")}
	want := dir("a", dir("d", dir("e", dir()), "f", tool("TexT"+strings.ReplaceAll(own, "t", "T"))), "f", file("text!"))
	for range 3 {
		x, n, e := recipe.Run(l, own, in)
		if e != api.OK || n != len(l) || !tree.Same(x, want) {
			t.Fatalf("Run = %v, %d, %d", x, n, e)
		}
		samples.Spoil(x)
		if !samples.Intact(in[0].Tree, was) || in[:2][1].Path != "spare" || !slices.Equal(args[:4], []string{"i", "", "a", "spare"}) || l[1].Args[1] != "@out@" {
			t.Fatal("what was handed in has changed, or its spare room, or an answer shares memory with it")
		}
	}
	x, _, _ := recipe.Run(l, own, in)
	samples.Spoil(in[0].Tree)
	clear(l)
	clear(args)
	if !tree.Same(x, want) {
		t.Error("an answer has kept what was handed in")
	}
}

// TestP2_NoListTwice: no list of an answer shares memory with another one of it.
func TestP2_NoListTwice(t *testing.T) {
	s := "mkdir a\nwrite a/f x\ncopy lib \"\" b\ncopy lib \"\" c\ncopy lib text a/g\nappend a/g y\nexec b/text\nlink l x"
	want, _, _ := recipe.Run(steps(t, s), own, inputs())
	for i, path := range tree.Paths(want) {
		x, _, e := recipe.Run(steps(t, s), own, inputs())
		if e != api.OK || !tree.Same(x, want) {
			t.Fatalf("Run = %v, %d", x, e)
		}
		spot := &x
		for _, name := range strings.Split(path, "/") {
			spot = &spot.Kids[slices.Index(spot.Names, name)]
		}
		samples.Spoil(*spot)
		*spot = file("")
		for _, other := range tree.Paths(want) {
			if other == path || strings.HasPrefix(other, path+"/") || strings.HasPrefix(path, other+"/") {
				continue
			}
			now, e := tree.At(x, other)
			then, _ := tree.At(want, other)
			if e != api.OK || !tree.Same(now, then) {
				t.Fatalf("%d: %s shares memory with %s", i, path, other)
			}
		}
	}
}

// node is a file, a link or a directory of the model.
type node struct {
	kind byte
	exec bool
	data string
}

// model is what the document says of a build: what stands at each path, the root's too.
type model map[string]node

// pathNames: the names of a path, or what is wrong with it.
func pathNames(path string) ([]string, api.Errno) {
	if len(path) > api.MaxPath {
		return nil, api.ErrLong
	}
	if path == "" {
		return nil, api.OK
	}
	l := strings.Split(path, "/")
	for _, name := range l {
		if name == "" || name == "." || name == ".." || len(name) > api.MaxEntry || strings.Contains(name, "\x00") {
			return nil, api.ErrText
		}
	}
	return l, api.OK
}

// come: what is wrong on the way to some names.
func (m model) come(l []string) api.Errno {
	for i := range l {
		if m[strings.Join(l[:i], "/")].kind != api.Dir {
			return api.ErrKind
		}
		if _, ok := m[strings.Join(l[:i+1], "/")]; !ok {
			return api.ErrNone
		}
	}
	return api.OK
}

// at: what stands at a path, itself at the empty one.
func (m model) at(path string) (model, api.Errno) {
	l, e := pathNames(path)
	if e == api.OK {
		e = m.come(l)
	}
	if e != api.OK {
		return nil, e
	}
	part := model{}
	for p, x := range m {
		if p == path {
			part[""] = x
		} else if path == "" {
			part[p] = x
		} else if rest, ok := strings.CutPrefix(p, path+"/"); ok {
			part[rest] = x
		}
	}
	return part, api.OK
}

// bytes: how many a part has.
func (m model) bytes() int {
	n := 0
	for _, x := range m {
		n += len(x.data)
	}
	return n
}

// put: a part stands at a path; isNew: nothing may stand there.
func (m model) put(path string, part model, isNew bool) api.Errno {
	l, e := pathNames(path)
	if e != api.OK {
		return e
	}
	if len(l) == 0 {
		return api.ErrArg
	}
	root := part[""]
	if part.bytes() > api.MaxData || root.kind == api.Link && (root.data == "" || len(root.data) > api.MaxPath || strings.Contains(root.data, "\x00")) {
		return api.ErrForm
	}
	if e := m.come(l[:len(l)-1]); e != api.OK {
		return e
	}
	if m[strings.Join(l[:len(l)-1], "/")].kind != api.Dir {
		return api.ErrKind
	}
	if _, ok := m[path]; ok && isNew {
		return api.ErrExists
	}
	for p := range m {
		if p == path || strings.HasPrefix(p, path+"/") {
			delete(m, p)
		}
	}
	for p, x := range part {
		m[strings.TrimSuffix(path+"/"+p, "/")] = x
	}
	for p := range m {
		if strings.Count(p, "/") >= api.MaxDepth {
			return api.ErrLong
		}
	}
	if m.bytes() > api.MaxData || len(m) > api.MaxNodes {
		return api.ErrLong
	}
	return api.OK
}

// step: one step more, by the document's words, one behind the other.
func (m model) step(s api.Step, out string, in map[string]model) api.Errno {
	if s.Kind == 0 || s.Kind > 8 || forms[s.Kind-1].n != len(s.Args) {
		return api.ErrForm
	}
	var w []string
	for _, word := range s.Args {
		w = append(w, strings.ReplaceAll(word, "@out@", out))
	}
	switch s.Kind {
	case api.RMkdir:
		return m.put(w[0], model{"": {kind: api.Dir}}, true)
	case api.RWrite:
		return m.put(w[0], model{"": {kind: api.File, data: w[1]}}, false)
	case api.RLink:
		return m.put(w[0], model{"": {kind: api.Link, data: w[1]}}, false)
	case api.RFail:
		return api.ErrThrow
	case api.RCopy:
		input, ok := in[w[0]]
		if !ok {
			return api.ErrName
		}
		part, e := input.at(w[1])
		if e != api.OK {
			return e
		}
		return m.put(w[2], part, false)
	}
	part, e := m.at(w[0])
	if e != api.OK {
		return e
	}
	x := part[""]
	if x.kind != api.File {
		return api.ErrKind
	}
	switch s.Kind {
	case api.RAppend:
		x.data += w[1]
	case api.RExec:
		x.exec = true
	case api.RSwap:
		if w[1] == "" {
			return api.ErrArg
		}
		if strings.Count(x.data, w[1])*len(w[2]) > 2*api.MaxData {
			return api.ErrLong
		}
		x.data = strings.Join(strings.Split(x.data, w[1]), w[2])
	}
	return m.put(w[0], model{"": x}, false)
}

// flat: a tree as a model.
func flat(x api.Tree) model {
	m := model{"": {x.Kind, x.Exec, string(x.Data)}}
	for _, path := range tree.Paths(x) {
		y, _ := tree.At(x, path)
		m[path] = node{y.Kind, y.Exec, string(y.Data)}
	}
	return m
}

// same: are two models alike?
func (m model) same(n model) bool {
	for path, x := range m {
		if y, ok := n[path]; !ok || x != y {
			return false
		}
	}
	return len(m) == len(n)
}

// anyStep: any step, mostly one that can be done.
func anyStep(d *samples.Dice) api.Step {
	path := func() string {
		s := []string{"a", "b", "c", "@out@"}[d.Roll(4)]
		for d.Roll(3) == 0 {
			s += "/" + []string{"a", "b", "c", "bin", "run", "text", "@out@"}[d.Roll(7)]
		}
		if d.Roll(60) == 0 {
			s = []string{"", "/", "..", strings.Repeat("a", 81), strings.Repeat("a/", 200) + "b", "x/", strings.Repeat("@out@", 9)}[d.Roll(7)]
		}
		return s
	}
	text := func() string {
		s := []string{"a", "b", "aa", "ab", "@out@", "-@out@", "X", "", "bX", "\x00"}[d.Roll(10)]
		if d.Roll(15) == 0 {
			s = strings.Repeat("a", []int{400, 401, 20000, 65536, 65537, 131073}[d.Roll(6)])
		}
		return s
	}
	s := api.Step{Kind: byte(d.Roll(31))%8 + 1}
	for i := range forms[s.Kind-1].n {
		switch {
		case s.Kind == api.RCopy && i == 0:
			s.Args = append(s.Args, []string{"lib", "one", "two", "none", "@out@", "", "Lib"}[d.Roll(7)])
		case s.Kind == api.RCopy && i == 1:
			s.Args = append(s.Args, []string{"", "", "bin", "bin/run", "text", "l", "none", "text/x", "/", "@out@"}[d.Roll(10)])
		case i == 0 || s.Kind == api.RCopy:
			s.Args = append(s.Args, path())
		default:
			s.Args = append(s.Args, text())
		}
	}
	if d.Roll(100) == 0 {
		s.Kind = byte(d.Roll(10))
	}
	return s
}

// TestP12_2_AsTold holds Run to the document at many steps: each that fails is left out, so that others come.
func TestP12_2_AsTold(t *testing.T) {
	d := samples.Dice(7)
	in := inputs()[:6]
	trees := map[string]model{}
	for i := range in {
		if x := in[len(in)-1-i]; x.Path != "bad" {
			trees[x.Path] = flat(x.Tree)
		}
	}
	met := map[string]int{}
	for round := range 600 {
		var l []api.Step
		out := []string{own, own, "a", "@out@", "", "b/a"}[d.Roll(6)]
		m := model{"": {kind: api.Dir}}
		for range 25 {
			s := anyStep(&d)
			n := model{}
			for path, x := range m {
				n[path] = x
			}
			want := n.step(s, out, trees)
			met[strconv.Itoa(int(s.Kind))+" "+strconv.Itoa(int(want))]++
			x, place, e := recipe.Run(append(l, s), out, in)
			if e != want || e == api.OK && place != len(l)+1 || e != api.OK && (place != len(l) || !tree.Same(x, api.Tree{})) {
				t.Fatalf("%d: Run(%.900q) = %.300v, %d, %d, and not %d", round, append(l, s), x, place, e, want)
			}
			if e != api.OK {
				continue
			}
			if !tree.Form(x) || !flat(x).same(n) {
				t.Fatalf("%d: Run(%.900q) = %.300v, and not %.300v", round, append(l, s), x, n)
			}
			l, m = append(l, s), n
		}
	}
	for _, what := range []string{"1 0", "1 6", "1 7", "1 8", "2 0", "2 2", "2 3", "2 6", "2 8", "3 0", "3 6", "3 8", "4 0", "4 6", "4 8", "4 9", "5 0", "5 3", "6 0", "6 6", "6 8", "7 0", "7 1", "8 12", "9 3"} {
		if met[what] < 5 {
			t.Errorf("a step and its fault, %s, were met only %d times of %v", what, met[what], met)
		}
	}
}

// TestP2_Again: a run leaves nothing behind.
func TestP2_Again(t *testing.T) {
	l := steps(t, "write f a\nappend f @out@\ncopy one \"\" g\nswap g only no")
	for range 3 {
		stops(t, append(slices.Clone(l), step(api.RFail, "x")), len(l), api.ErrThrow)
		makes(t, l, dir("f", file("a"+own), "g", file("no a file")))
	}
	x, _, _ := recipe.Run(l, own, inputs())
	y, _, _ := recipe.Run(l, own, inputs())
	samples.Spoil(x)
	if f, e := tree.At(y, "f"); e != api.OK || !bytes.Equal(f.Data, []byte("a"+own)) {
		t.Error("two answers share memory")
	}
}
