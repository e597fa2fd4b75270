package edit_test

import (
	"fmt"
	"runtime/debug"
	"slices"
	"strconv"
	"strings"
	"testing"

	"staddle/api"
	"staddle/edit"
	"staddle/samples"
	"staddle/tree"
)

var file, tool, link, dir, wide, deep = samples.File, samples.Tool, samples.Link, samples.Dir, samples.Wide, samples.Deep

func mkdir(path string) api.Edit           { return api.Edit{Kind: api.OMkdir, Path: path} }
func put(path string, t api.Tree) api.Edit { return api.Edit{Kind: api.OPut, Path: path, Tree: t} }
func move(path string, from string) api.Edit {
	return api.Edit{Kind: api.OMove, Path: path, From: from}
}
func drop(path string) api.Edit { return api.Edit{Kind: api.ODrop, Path: path} }

// sample is a tree with something of everything.
func sample() api.Tree {
	return dir(
		"a", dir("b", file("text"), "c", dir("d", link("../b"), "e", dir())),
		"ab", tool("run"),
		"z", dir("\xff", file("\x00\x01\x02")),
	)
}

// told is the last of some edits, less their trees.
func told(l []api.Edit) string {
	s := ""
	for _, x := range l[max(0, len(l)-5):] {
		s += fmt.Sprintf("%d %.50q %.50q; ", x.Kind, x.Path, x.From)
	}
	return s
}

// becomes fails where some edits of a tree don't make another one of it.
func becomes(t *testing.T, from, want api.Tree, l ...api.Edit) {
	t.Helper()
	if x, e := edit.Apply(from, l); e != api.OK || !tree.Same(x, want) || !tree.Form(x) {
		t.Errorf("%s: Apply = %d, %.500s, and not %.500s", told(l), e, fmt.Sprint(x), fmt.Sprint(want))
	}
}

// fails fails where some edits of a tree don't fail as they should.
func fails(t *testing.T, from api.Tree, want api.Errno, l ...api.Edit) {
	t.Helper()
	if x, e := edit.Apply(from, l); e != want || !tree.Same(x, api.Tree{}) {
		t.Errorf("%s: Apply = %d, and not %d, with %d names", told(l), e, want, len(x.Names))
	}
}

func TestP5_1_Example(t *testing.T) {
	becomes(t, dir(), dir("b", dir("f", file("x"))), mkdir("a"), put("a/f", file("x")), move("b", "a"))
	fails(t, dir("a", dir()), api.ErrLoop, move("a/b", "a"))
}

func TestP5_1_NoEdits(t *testing.T) {
	for _, x := range []api.Tree{sample(), dir(), file("x"), tool(""), link("x")} {
		becomes(t, x, x)
	}
}

func TestP5_1_Mkdir(t *testing.T) {
	becomes(t, dir(), dir("a", dir()), mkdir("a"))
	becomes(t, dir("b", file("")), dir("a", dir(), "b", file("")), mkdir("a"))
	becomes(t, dir("b", file("")), dir("b", file(""), "c", dir()), mkdir("c"))
	becomes(t, dir("a", file("1"), "c", file("2")), dir("a", file("1"), "b", dir(), "c", file("2")), mkdir("b"))
	becomes(t, dir(), dir("B", dir(), "a", dir(), "a.b", dir(), "ab", dir(), "b", dir(), "\xff", dir()),
		mkdir("ab"), mkdir("\xff"), mkdir("a"), mkdir("b"), mkdir("B"), mkdir("a.b"))
	becomes(t, dir(), dir("a", dir("b", dir("c", dir()))), mkdir("a"), mkdir("a/b"), mkdir("a/b/c"))
	for _, there := range []api.Tree{file(""), link("x"), dir(), dir("b", dir())} {
		fails(t, dir("a", there), api.ErrExists, mkdir("a"))
		fails(t, dir("x", dir("a", there)), api.ErrExists, mkdir("x/a"))
	}
	fails(t, dir(), api.ErrExists, mkdir("a"), mkdir("a"))
}

func TestP5_1_Put(t *testing.T) {
	for _, x := range []api.Tree{file(""), tool("x"), link("x"), dir(), sample()} {
		becomes(t, dir(), dir("a", x), put("a", x))
		becomes(t, dir("a", dir()), dir("a", dir("b", x)), put("a/b", x))
		for _, there := range []api.Tree{file("there"), tool(""), link("there"), dir(), dir("b", dir("c", file("")))} {
			becomes(t, dir("a", there), dir("a", x), put("a", x))
			becomes(t, dir("a", file("1"), "b", there, "c", file("2")), dir("a", file("1"), "b", x, "c", file("2")), put("b", x))
		}
	}
	becomes(t, dir("b", file("")), dir("a", file("1"), "b", file(""), "c", file("2")), put("c", file("2")), put("a", file("1")))
	becomes(t, dir(), dir("a", dir("b", file("2"))), put("a", sample()), put("a", dir("b", file("1"))), put("a/b", file("2")))
	// Behind a put of a file the directory that was there is no directory any more.
	fails(t, dir("a", dir()), api.ErrKind, put("a", file("")), mkdir("a/b"))
}

func TestP5_1_Drop(t *testing.T) {
	becomes(t, dir("a", file("x")), dir(), drop("a"))
	becomes(t, sample(), dir("ab", tool("run"), "z", dir("\xff", file("\x00\x01\x02"))), drop("a"))
	becomes(t, dir("a", file(""), "b", dir("x", dir()), "c", link("x")), dir("a", file(""), "c", link("x")), drop("b"))
	becomes(t, dir("a", dir("b", dir(), "c", dir())), dir("a", dir("b", dir())), drop("a/c"))
	fails(t, dir(), api.ErrNone, drop("a"))
	fails(t, dir("a", dir()), api.ErrNone, drop("a/b"))
	fails(t, dir("a", dir()), api.ErrNone, drop("a"), drop("a"))
	fails(t, dir("a", dir()), api.ErrNone, drop("aa"))
}

func TestP5_1_Move(t *testing.T) {
	becomes(t, dir("a", file("x")), dir("b", file("x")), move("b", "a"))
	becomes(t, dir("b", file("x")), dir("a", file("x")), move("a", "b"))
	becomes(t, dir("a", file("1"), "b", file("2"), "c", file("3")), dir("b", file("2"), "c", file("1")), move("c", "a"))
	becomes(t, dir("a", sample(), "b", dir()), dir("b", dir("c", sample())), move("b/c", "a"))
	becomes(t, dir("a", dir("x", tool("")), "b", link("y")), dir("a", dir(), "b", tool("")), move("b", "a/x"))
	becomes(t, dir("a", dir("x", tool(""))), dir("a", dir(), "b", tool("")), move("b", "a/x"))
	becomes(t, dir("a", dir("x", tool(""), "y", dir())), dir("a", dir("y", dir("z", tool("")))), move("a/y/z", "a/x"))
	// What is moved comes in the place of what is there, be that what it may.
	for _, there := range []api.Tree{file("there"), link("there"), dir(), dir("b", dir("c", file("")))} {
		becomes(t, dir("a", sample(), "q", there), dir("q", sample()), move("q", "a"))
		becomes(t, dir("a", there, "q", link("x")), dir("a", link("x")), move("a", "q"))
	}
	// Names that begin alike don't stand in one another.
	becomes(t, dir("a", dir()), dir("ab", dir()), move("ab", "a"))
	becomes(t, dir("ab", dir("x", file(""))), dir("a", dir("x", file(""))), move("a", "ab"))
	becomes(t, dir("a", dir("b", file("")), "ab", dir()), dir("a", dir(), "ab", dir("b", file(""))), move("ab/b", "a/b"))
}

func TestP5_1_MoveToItself(t *testing.T) {
	for _, path := range []string{"a", "a/b", "a/c", "a/c/d", "a/c/e", "ab", "z", "z/\xff"} {
		becomes(t, sample(), sample(), move(path, path))
	}
	for path, want := range map[string]api.Errno{"b": api.ErrNone, "a/x": api.ErrNone, "x/y": api.ErrNone, "ab/x": api.ErrKind, "a/b/c/d": api.ErrKind} {
		fails(t, sample(), want, move(path, path))
	}
	full := wide(api.MaxNodes - 1)
	becomes(t, full, full, move(full.Names[7], full.Names[7]))
	bottom := strings.Repeat("d/", api.MaxDepth-1) + "d"
	becomes(t, deep(api.MaxDepth, file("")), deep(api.MaxDepth, file("")), move(bottom, bottom))
}

func TestP5_1_MoveIntoItself(t *testing.T) {
	for _, l := range [][2]string{
		{"a", "a/b"}, {"a", "a/x"}, {"a", "a/c"}, {"a", "a/c/d"}, {"a", "a/c/x"}, {"a", "a/x/y/z"}, {"a", "a/b/x"}, {"a/c", "a/c/e"}, {"a/c", "a/c/x/y"}, {"ab", "ab/x"}, {"ab", "ab/x/y"},
	} {
		fails(t, sample(), api.ErrLoop, move(l[1], l[0]))
		if _, e := tree.At(sample(), l[1]); e == api.OK {
			fails(t, sample(), api.ErrLoop, move(l[0], l[1]))
		} else {
			fails(t, sample(), e, move(l[0], l[1]))
		}
	}
}

func TestP5_1_MoveWrong(t *testing.T) {
	s := sample()
	for from, want := range map[string]api.Errno{
		"b": api.ErrNone, "a/x": api.ErrNone, "x/y": api.ErrNone, "ab/x": api.ErrKind, "a/b/x/y": api.ErrKind, "aa": api.ErrNone,
		"": api.ErrArg, "/": api.ErrText, "a/": api.ErrText, "a/..": api.ErrText, strings.Repeat("/", api.MaxPath+1): api.ErrLong,
		strings.Repeat("n", api.MaxEntry+1): api.ErrText, strings.Repeat("a/", api.MaxPath/2) + "a": api.ErrLong,
	} {
		fails(t, s, want, move("new", from))
		// From comes ahead of where the tree would come to.
		fails(t, s, want, move("new/x", from))
		fails(t, s, want, move("ab/x/y", from))
	}
	for path, want := range map[string]api.Errno{
		"new/x": api.ErrNone, "a/x/y": api.ErrNone, "ab/x": api.ErrKind, "a/b/x": api.ErrKind, "a/b/x/y": api.ErrKind, "a/c/d/x": api.ErrKind,
	} {
		fails(t, s, want, move(path, "z"))
		fails(t, s, want, move(path, "z/\xff"))
	}
	// What has gone is not there any more, and what has come is.
	fails(t, s, api.ErrNone, move("new", "z"), move("newer", "z"))
	fails(t, s, api.ErrNone, drop("a/b"), move("a/c/b", "a/b"))
	fails(t, s, api.ErrKind, move("z", "ab"), mkdir("z/x"))
}

// wrongPaths is texts that are no path of an edit, and what each call says of them.
func wrongPaths() map[string]api.Errno {
	return map[string]api.Errno{
		"": api.ErrArg, "/": api.ErrText, "/a": api.ErrText, "a/": api.ErrText, "a//b": api.ErrText, ".": api.ErrText, "..": api.ErrText,
		"a/../b": api.ErrText, "a/.": api.ErrText, "\x00": api.ErrText, "a/b\x00": api.ErrText,
		strings.Repeat("n", api.MaxEntry+1):            api.ErrText,
		"a/" + strings.Repeat("n", api.MaxEntry+1):     api.ErrText,
		strings.Repeat("n", api.MaxPath):               api.ErrText,
		strings.Repeat("n", api.MaxPath+1):             api.ErrLong,
		strings.Repeat("a/", api.MaxPath/2) + "a":      api.ErrLong,
		strings.Repeat("/", api.MaxPath+1):             api.ErrLong,
		strings.Repeat("a/../", api.MaxPath/5) + "a/b": api.ErrLong,
	}
}

func TestP5_1_WrongPaths(t *testing.T) {
	for path, want := range wrongPaths() {
		for _, root := range []api.Tree{sample(), dir(), file("")} {
			fails(t, root, want, mkdir(path))
			fails(t, root, want, drop(path))
			fails(t, root, want, put(path, file("")))
			fails(t, root, want, put(path, api.Tree{}))
			fails(t, root, want, api.Edit{Kind: 9, Path: path})
			fails(t, root, want, move(path, "ab"))
			for from := range wrongPaths() {
				fails(t, root, want, move(path, from))
			}
			fails(t, root, want, move(path, "nothing/there"))
		}
	}
}

func TestP5_1_WrongDirectories(t *testing.T) {
	for path, want := range map[string]api.Errno{
		"x/y": api.ErrNone, "x/y/z": api.ErrNone, "a/x/y": api.ErrNone, "a/c/e/x/y": api.ErrNone, "aa/b": api.ErrNone,
		"ab/x": api.ErrKind, "ab/x/y": api.ErrKind, "a/b/x": api.ErrKind, "a/b/x/y/z": api.ErrKind, "a/c/d/x": api.ErrKind, "z/\xff/x": api.ErrKind,
	} {
		fails(t, sample(), want, mkdir(path))
		fails(t, sample(), want, drop(path))
		fails(t, sample(), want, put(path, file("")))
		fails(t, sample(), want, put(path, dir("x", dir())))
	}
	for _, root := range []api.Tree{file("x"), tool(""), link("x")} {
		for _, path := range []string{"a", "a/b"} {
			fails(t, root, api.ErrKind, mkdir(path))
			fails(t, root, api.ErrKind, drop(path))
			fails(t, root, api.ErrKind, put(path, file("")))
			fails(t, root, api.ErrKind, move(path, "b"))
			fails(t, root, api.ErrKind, move(path, path))
		}
	}
}

func TestP5_1_WrongTrees(t *testing.T) {
	for name, x := range samples.Wrong() {
		for _, l := range [][]api.Edit{nil, {mkdir("new")}, {mkdir("")}, {mkdir("/")}, {drop("a")}, {{}}} {
			if y, e := edit.Apply(x, l); e != api.ErrForm || !tree.Same(y, api.Tree{}) {
				t.Errorf("%s: Apply = %d", name, e)
			}
		}
		for path := range map[string]int{"new": 0, "ab": 0, "a/c": 0, "x/y": 0, "ab/x": 0, "a/b/c/d": 0} {
			if y, e := edit.Apply(sample(), []api.Edit{put(path, x)}); e != api.ErrForm || !tree.Same(y, api.Tree{}) {
				t.Errorf("%s: Apply of a put at %s = %d", name, path, e)
			}
		}
	}
}

func TestP5_1_OtherKinds(t *testing.T) {
	for kind := range 256 {
		if byte(kind) < api.OMkdir || byte(kind) > api.ODrop {
			fails(t, sample(), api.ErrForm, api.Edit{Kind: byte(kind), Path: "new"})
			fails(t, sample(), api.ErrForm, api.Edit{Kind: byte(kind), Path: "x/y", From: "a", Tree: file("")})
		}
	}
}

// TestP5_1_WhatAKindDoesNotName: Apply has no error for it.
func TestP5_1_WhatAKindDoesNotName(t *testing.T) {
	junk := api.Tree{Kind: 9, Data: []byte("x")}
	becomes(t, dir("a", file("")), dir("a", file(""), "b", dir()), api.Edit{Kind: api.OMkdir, Path: "b", From: "/", Tree: junk})
	becomes(t, dir("a", file("")), dir("a", file("x")), api.Edit{Kind: api.OPut, Path: "a", From: "/", Tree: file("x")})
	becomes(t, dir("a", file("")), dir("b", file("")), api.Edit{Kind: api.OMove, Path: "b", From: "a", Tree: junk})
	becomes(t, dir("a", file("")), dir(), api.Edit{Kind: api.ODrop, Path: "a", From: "/", Tree: junk})
}

func TestP5_1_TheFirstError(t *testing.T) {
	s := sample()
	bad := map[api.Errno]api.Edit{
		api.ErrArg: mkdir(""), api.ErrLong: mkdir(strings.Repeat("n", api.MaxPath+1)), api.ErrForm: {Path: "x"}, api.ErrText: drop("/"),
		api.ErrNone: drop("x"), api.ErrExists: mkdir("a"), api.ErrKind: drop("ab/x"), api.ErrLoop: move("a/x", "a"),
	}
	for want, first := range bad {
		for _, second := range bad {
			fails(t, s, want, first, second)
			fails(t, s, want, mkdir("new"), first, second, mkdir("newer"))
			fails(t, s, want, drop("z"), put("new", s), first)
		}
	}
}

func TestP5_1_TooMany(t *testing.T) {
	full := wide(api.MaxNodes - 1)
	almost := wide(api.MaxNodes - 2)
	first, last := full.Names[0], full.Names[api.MaxNodes-2]
	becomes(t, almost, dir(append(parts(almost), "a", dir())...), mkdir("a"))
	fails(t, full, api.ErrLong, mkdir("a"))
	fails(t, full, api.ErrLong, put("a", file("")))
	fails(t, full, api.ErrLong, put(first, dir("x", file(""))))
	fails(t, almost, api.ErrLong, mkdir("a"), mkdir("b"))
	fails(t, almost, api.ErrLong, mkdir("a"), mkdir("b"), drop("b"))
	fails(t, almost, api.ErrLong, put("a", dir("x", file(""))))
	// What is replaced, or has gone, doesn't count any more.
	becomes(t, full, full, put(first, file("")), put(last, file("")))
	becomes(t, full, full, drop(first), mkdir(first), put(first, file("")))
	becomes(t, full, dir(append(parts(full)[4:], "a", dir("x", file("")))...), drop(first), drop(full.Names[1]), put("a", dir("x", file(""))))
	becomes(t, full, dir(append(parts(full)[2:], "a", file(""))...), move("a", first))
	becomes(t, dir("a", wide(api.MaxNodes-3), "b", file("")), dir("b", wide(api.MaxNodes-3)), move("b", "a"))
	becomes(t, dir(), dir("a", almost), put("a", almost))
	becomes(t, dir("a", almost), dir("a", almost), put("a", almost))
	fails(t, dir(), api.ErrLong, put("a", full))
	fails(t, dir(), api.ErrLong, put("a", wide(api.MaxNodes/2-1)), put("b", wide(api.MaxNodes/2-1)))
	becomes(t, dir(), dir("a", wide(api.MaxNodes/2-1), "b", wide(api.MaxNodes/2-2)), put("a", wide(api.MaxNodes/2-1)), put("b", wide(api.MaxNodes/2-2)))
	// A directory that is missing, or a name that is there, comes first.
	fails(t, full, api.ErrNone, mkdir("a/b"))
	fails(t, full, api.ErrKind, put(first+"/a", full))
	fails(t, full, api.ErrExists, mkdir(first))
}

// parts is a directory's names and trees by turns, as samples.Dir takes them; what begins with a comes behind all digits.
func parts(t api.Tree) []any {
	var l []any
	for i := range t.Names {
		l = append(l, t.Names[i], t.Kids[i])
	}
	return l
}

func TestP5_1_TooMuch(t *testing.T) {
	much := strings.Repeat("x", api.MaxData)
	full := dir("a", file(much[:api.MaxData-10]), "b", file(much[:10]))
	becomes(t, full, full)
	becomes(t, dir("a", file(much[:api.MaxData-10])), full, put("b", file(much[:10])))
	becomes(t, dir(), dir("a", file(much)), put("a", file(much)))
	becomes(t, full, dir("a", file(much)), drop("b"), put("a", file(much)))
	becomes(t, full, dir("a", file(""), "b", file(much)), put("a", file("")), put("b", file(much)))
	becomes(t, full, dir("a", file(much[:api.MaxData-10]), "b", link(much[:10]), "c", dir()), put("b", link(much[:10])), mkdir("c"))
	becomes(t, full, dir("b", file(much[:api.MaxData-10])), move("b", "a"))
	becomes(t, full, dir("b", file(much[:10]), "c", file(much[:api.MaxData-10])), move("c", "a"))
	fails(t, full, api.ErrLong, put("c", file("x")))
	fails(t, full, api.ErrLong, put("c", link("x")))
	fails(t, full, api.ErrLong, put("b", file(much[:11])))
	fails(t, full, api.ErrLong, put("b", dir("x", file(much[:11]))))
	fails(t, full, api.ErrLong, put("a", file(much)))
	fails(t, full, api.ErrLong, put("a", file(much)), drop("b"))
	fails(t, full, api.ErrLong, drop("b"), put("b", file(much[:11])))
}

func TestP5_1_TooDeep(t *testing.T) {
	bottom := strings.Repeat("d/", api.MaxDepth-2) + "d" // of depth MaxDepth - 1
	at := deep(api.MaxDepth-1, dir())
	becomes(t, at, deep(api.MaxDepth-1, dir("x", dir())), mkdir(bottom+"/x"))
	becomes(t, at, deep(api.MaxDepth-1, dir("x", link("x"))), put(bottom+"/x", link("x")))
	fails(t, at, api.ErrLong, mkdir(bottom+"/x"), mkdir(bottom+"/x/y"))
	fails(t, at, api.ErrLong, mkdir(bottom+"/x"), put(bottom+"/x/y", file("")))
	fails(t, at, api.ErrLong, put(bottom+"/x", dir("y", file(""))))
	fails(t, at, api.ErrLong, put(bottom, deep(2, file(""))))
	becomes(t, at, deep(api.MaxDepth, file("")), put(bottom, deep(1, file(""))))
	becomes(t, dir(), dir("a", deep(api.MaxDepth-1, file(""))), put("a", deep(api.MaxDepth-1, file(""))))
	fails(t, dir(), api.ErrLong, put("a", deep(api.MaxDepth, file(""))))
	fails(t, dir(), api.ErrLong, put("a", deep(api.MaxDepth, file(""))), drop("a"))
	fails(t, dir(), api.ErrLong, put("a", dir("x", file(""), "y", deep(api.MaxDepth-1, dir()), "z", file(""))))
	for h := range api.MaxDepth - 1 {
		x := dir("a", deep(h, file("")), "d", deep(api.MaxDepth-1, dir()))
		to := strings.Repeat("d/", api.MaxDepth-h-1) + "b" // of depth MaxDepth - h
		if y, e := edit.Apply(x, []api.Edit{move(to, "a")}); e != api.OK || !tree.Form(y) || len(y.Names) != 1 {
			t.Errorf("a move of what is %d high to the depth that is left: %d", h, e)
		}
		fails(t, x, api.ErrLong, move("d/"+to, "a"))
	}
	fails(t, at, api.ErrNone, mkdir(bottom+"/x/y/z"))
	fails(t, deep(api.MaxDepth, file("")), api.ErrKind, mkdir(bottom+"/d/x"))
	fails(t, deep(api.MaxDepth, file("")), api.ErrKind, mkdir(bottom+"/d/x/y"))
	fails(t, deep(api.MaxDepth, dir()), api.ErrLong, mkdir(bottom+"/d/x"))
	fails(t, deep(api.MaxDepth, dir()), api.ErrNone, mkdir(bottom+"/d/x/y"))
}

// model is a tree by its paths, each with what stands there less what is in it: a second way to do what the document says of edits.
type model map[string]api.Tree

func modelOf(t api.Tree) model {
	m := model{}
	for _, path := range append(tree.Paths(t), "") {
		m.lay(path, t)
	}
	return m
}

// lay takes over what stands at a path of a tree, less what is in it, to the same path.
func (m model) lay(path string, t api.Tree) {
	x, _ := tree.At(t, path)
	x.Names, x.Kids = nil, nil
	m[path] = x
}

// tree is the tree of a model, from a path on.
func (m model) tree(path string) api.Tree {
	t := m[path]
	for p := range m {
		if rest, ok := strings.CutPrefix(p, prefix(path)); ok && rest != "" && !strings.Contains(rest, "/") {
			t.Names = append(t.Names, rest)
		}
	}
	slices.Sort(t.Names)
	for _, name := range t.Names {
		t.Kids = append(t.Kids, m.tree(prefix(path)+name))
	}
	return t
}

// prefix is what each path in another one begins with.
func prefix(path string) string {
	if path == "" {
		return ""
	}
	return path + "/"
}

// find is the error of coming to a path.
func (m model) find(path string) api.Errno {
	at := ""
	for _, name := range strings.Split(path, "/") {
		if m[at].Kind != api.Dir {
			return api.ErrKind
		}
		at = prefix(at) + name
		if _, ok := m[at]; !ok {
			return api.ErrNone
		}
	}
	return api.OK
}

// parent is the error of coming to the directory of a path.
func (m model) parent(path string) api.Errno {
	i := strings.LastIndex(path, "/")
	if i >= 0 {
		if e := m.find(path[:i]); e != api.OK {
			return e
		}
		path = path[:i]
	} else {
		path = ""
	}
	if m[path].Kind != api.Dir {
		return api.ErrKind
	}
	return api.OK
}

func (m model) drop(path string) {
	for p := range m {
		if p == path || strings.HasPrefix(p, path+"/") {
			delete(m, p)
		}
	}
}

func (m model) put(path string, t api.Tree) {
	m.drop(path)
	for p, x := range modelOf(t) {
		m[strings.TrimSuffix(path+"/"+p, "/")] = x
	}
}

// apply is one edit of a model whose paths are right.
func (m model) apply(x api.Edit) api.Errno {
	here := m.parent(x.Path)
	_, there := m[x.Path]
	switch x.Kind {
	case api.OMkdir:
		if here == api.OK && there {
			return api.ErrExists
		}
		if here == api.OK {
			m[x.Path] = dir()
		}
		return here
	case api.ODrop:
		if here == api.OK && !there {
			return api.ErrNone
		}
		m.drop(x.Path)
		return here
	case api.OPut:
		if here == api.OK {
			m.put(x.Path, x.Tree)
		}
		return here
	}
	if e := m.find(x.From); e != api.OK || x.From == x.Path {
		return e
	}
	if strings.HasPrefix(x.From, x.Path+"/") || strings.HasPrefix(x.Path, x.From+"/") {
		return api.ErrLoop
	}
	if here == api.OK {
		t := m.tree(x.From)
		m.drop(x.From)
		m.put(x.Path, t)
	}
	return here
}

// anyPath is a path with few names, so that many edits are about what is there.
func anyPath(d *samples.Dice) string {
	names := []string{"a", "b", "c", "ab", "a.b"}
	path := names[d.Roll(len(names))]
	for range d.Roll(4) {
		path += "/" + names[d.Roll(len(names))]
	}
	return path
}

func anyTree(d *samples.Dice, depth int) api.Tree {
	kind := d.Roll(6)
	if depth == 0 || kind < 2 {
		return []api.Tree{file(strconv.Itoa(d.Roll(99))), tool(""), link("x"), dir()}[d.Roll(4)]
	}
	t := dir()
	for _, name := range []string{"a", "a.b", "ab", "b", "c"} {
		if d.Roll(2) == 0 {
			t.Names, t.Kids = append(t.Names, name), append(t.Kids, anyTree(d, depth-1))
		}
	}
	return t
}

// TestP5_1_AsTheModel makes many edits, and holds each list of those that work so far, with one more, against the model.
func TestP5_1_AsTheModel(t *testing.T) {
	d := samples.Dice(5)
	seen := map[api.Errno]int{}
	for range 300 {
		start := anyTree(&d, 3)
		m := modelOf(start)
		var done []api.Edit
		for range 30 {
			x := api.Edit{Kind: byte(d.Roll(4)) + api.OMkdir, Path: anyPath(&d)}
			switch x.Kind {
			case api.OMove:
				x.From = anyPath(&d)
			case api.OPut:
				x.Tree = anyTree(&d, 2)
			}
			want := m.apply(x)
			got, e := edit.Apply(start, append(done[:len(done):len(done)], x))
			seen[e]++
			if e != want || e == api.OK && !tree.Same(got, m.tree("")) || e != api.OK && !tree.Same(got, api.Tree{}) {
				t.Fatalf("%v, behind %s of %v: %v, %d, and not %v, %d", x, told(done), start, got, e, m.tree(""), want)
			}
			if e == api.OK {
				done = append(done, x)
			}
		}
	}
	for _, e := range []api.Errno{api.OK, api.ErrNone, api.ErrExists, api.ErrKind, api.ErrLoop} {
		if seen[e] < 20 {
			t.Errorf("the error %d has come %d times only", e, seen[e])
		}
	}
}

// TestP5_1_ManyEdits makes as many trees as there may be, one by one, in an order that doesn't rise, moves them all, and drops them.
func TestP5_1_ManyEdits(t *testing.T) {
	names := make([]string, api.MaxNodes-3)
	for i := range names {
		names[i] = strconv.Itoa(i * 2741 % len(names))
	}
	l := []api.Edit{mkdir("x"), mkdir("y")}
	for _, name := range names {
		l = append(l, mkdir("x/"+name))
	}
	for _, name := range names {
		l = append(l, move("y/"+name, "x/"+name), put("y/"+name, file("")))
	}
	x, e := edit.Apply(dir(), l)
	if trees, _, _ := tree.Size(x); e != api.OK || trees != api.MaxNodes || len(x.Kids[0].Kids) != 0 || len(x.Kids[1].Kids) != len(names) {
		t.Fatalf("Apply of many edits: %d trees, %d", trees, e)
	}
	fails(t, dir(), api.ErrLong, append(l[:len(l):len(l)], mkdir("z"))...)
	for _, name := range names {
		l = append(l, drop("y/"+name), mkdir("z"), drop("z"))
	}
	becomes(t, dir(), dir("x", dir(), "y", dir()), l...)
}

// TestP1_TreesWithoutBottom hands in what is deeper than a stack that is made small for it: a call that runs over it ends the tests.
func TestP1_TreesWithoutBottom(t *testing.T) {
	defer debug.SetMaxStack(debug.SetMaxStack(1 << 20))
	far := deep(50000, file("x"))
	endless := file("") // two kids at each depth, which are one in memory: whoever goes to the bottom is never done
	for range 64 {
		endless = api.Tree{Kind: api.Dir, Names: []string{"a", "b"}, Kids: []api.Tree{endless, endless}}
	}
	for _, x := range []api.Tree{far, endless} {
		fails(t, x, api.ErrForm, drop("d"))
		fails(t, dir(), api.ErrForm, put("d", x))
		for kind := range byte(6) {
			y := api.Edit{Kind: kind, Path: "a", Tree: x}
			if edit.Form(y) {
				t.Errorf("an edit of kind %d with such a tree is right", kind)
			}
			if p, e := edit.Encode([]api.Edit{y}); e != api.ErrForm || len(p) != 0 {
				t.Errorf("Encode of an edit of kind %d with such a tree: %d", kind, e)
			}
		}
	}
}

func TestP2_ApplyChangesAndKeepsNothing(t *testing.T) {
	from, x := samples.Roomy(sample()), samples.Roomy(dir("p", file("1"), "q", dir("r", link("2"))))
	l := []api.Edit{put("new", x), put("a/x", x), drop("a/b"), move("a/y", "a/c"), mkdir("a/b"), put("z", x), move("a/x/q/z", "z")}
	room := append(slices.Clone(l), drop("spare"))
	var first api.Tree
	for i := range 2 {
		y, e := edit.Apply(from, room[:len(l)])
		if e != api.OK || !tree.Form(y) || i > 0 && !tree.Same(y, first) {
			t.Fatalf("Apply = %v, %d", y, e)
		}
		first = tree.Copy(y)
		for _, kid := range y.Kids {
			samples.Spoil(kid)
		}
		samples.Spoil(y)
		if !samples.Intact(from, sample()) || !samples.Intact(x, dir("p", file("1"), "q", dir("r", link("2")))) {
			t.Fatal("what was handed in has changed, or its spare room, or the answer shares memory with it")
		}
		if room[len(l)].Path != "spare" || room[0].Path != "new" {
			t.Fatal("the list of edits has changed")
		}
	}
	y, _ := edit.Apply(from, l)
	samples.Spoil(from)
	samples.Spoil(x)
	if !tree.Same(y, first) {
		t.Error("the answer has kept what was handed in")
	}
}

// TestP2_ListsOfOneAnswer puts one tree twice, and asks whether both are apart, their spare room too.
func TestP2_ListsOfOneAnswer(t *testing.T) {
	x := dir("p", file("text"), "q", dir())
	l := []api.Edit{put("a", x), put("b", x), move("c", "a"), put("a", x), drop("a/q"), mkdir("b/a"), drop("b/a")}
	want := dir("a", dir("p", file("text")), "b", x, "c", x)
	for spoilt := range want.Kids {
		y, e := edit.Apply(dir(), l)
		if e != api.OK || !tree.Same(y, want) {
			t.Fatalf("Apply = %v, %d", y, e)
		}
		samples.Spoil(y.Kids[spoilt])
		for i := range want.Kids {
			if i != spoilt && !tree.Same(y.Kids[i], want.Kids[i]) {
				t.Errorf("the trees %d and %d share memory", spoilt, i)
			}
		}
	}
}
