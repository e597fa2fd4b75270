package tree_test

import (
	"bytes"
	"runtime/debug"
	"slices"
	"strconv"
	"strings"
	"testing"

	"staddle/api"
	"staddle/samples"
	"staddle/tree"
)

var file, tool, link, dir, wide, deep = samples.File, samples.Tool, samples.Link, samples.Dir, samples.Wide, samples.Deep

// sample is a tree with something of everything.
func sample() api.Tree {
	return dir(
		"a", dir("b", file("text"), "c", dir("d", link("../b"), "e", dir())),
		"a-b", tool("run"),
		"a.b", file(""),
		"z", dir("\xff", file("\x00\x01\x02")),
	)
}

func TestP3_1_Name(t *testing.T) {
	for b := range 256 {
		s := string([]byte{byte(b)})
		if ok := b != 0 && b != '/' && b != '.'; tree.Name(s) != ok {
			t.Errorf("Name(%q) = %v", s, !ok)
		}
		for _, s := range []string{"x" + s, s + "x", "x" + s + "y"} {
			if ok := b != 0 && b != '/'; tree.Name(s) != ok {
				t.Errorf("Name(%q) = %v", s, !ok)
			}
		}
	}
	for s, ok := range map[string]bool{
		"": false, ".": false, "..": false, "...": true, ".a": true, "..a": true, "a.": true, "a..": true, ". ": true,
		"a b": true, "\xff\xfe": true, "ä": true, "/": false, "\x00": false, "\\": true, "a\n": true,
		strings.Repeat("n", api.MaxEntry-1):          true,
		strings.Repeat("n", api.MaxEntry):            true,
		strings.Repeat("n", api.MaxEntry+1):          false,
		strings.Repeat("n", 100000):                  false,
		strings.Repeat("ä", api.MaxEntry/2):          true,
		strings.Repeat("ä", api.MaxEntry/2) + "a":    false,
		strings.Repeat("n", api.MaxEntry-1) + "/":    false,
		strings.Repeat(".", api.MaxEntry):            true,
		strings.Repeat("n", api.MaxEntry-1) + "\x00": false,
	} {
		if tree.Name(s) != ok {
			t.Errorf("Name(%q) = %v", s, !ok)
		}
	}
}

func TestP3_1_Split(t *testing.T) {
	long := strings.Repeat("n", api.MaxEntry)
	full := strings.Repeat(long+"/", 4) + strings.Repeat("m", api.MaxPath-4*(api.MaxEntry+1))
	for path, want := range map[string][]string{
		"":                             nil,
		"a":                            {"a"},
		"a/b":                          {"a", "b"},
		"a/b/c":                        {"a", "b", "c"},
		"a/.../.b":                     {"a", "...", ".b"},
		"\xff/ ":                       {"\xff", " "},
		long:                           {long},
		"a/" + long:                    {"a", long},
		full:                           {long, long, long, long, full[4*(api.MaxEntry+1):]},
		strings.Repeat("a/", 50) + "b": append(slices.Repeat([]string{"a"}, 50), "b"),
	} {
		if l, e := tree.Split(path); e != api.OK || !slices.Equal(l, want) {
			t.Errorf("Split(%q) = %q, %d", path, l, e)
		}
	}
	if len(full) != api.MaxPath {
		t.Fatalf("the path has %d bytes", len(full))
	}
	most := strings.Repeat("a/", api.MaxPath/2-1) + "ab"
	if l, e := tree.Split(most); len(most) != api.MaxPath || e != api.OK || len(l) != api.MaxPath/2 {
		t.Errorf("Split of %d bytes with names of one: %d, %d", len(most), len(l), e)
	}
}

func TestP3_1_SplitWrong(t *testing.T) {
	long := strings.Repeat("n", api.MaxEntry+1)
	for _, path := range []string{
		"/", "//", "/a", "a/", "a//b", ".", "..", "./a", "a/.", "a/..", "a/../b", "a/./b", "\x00", "a/\x00", "a\x00/b",
		long, "a/" + long, long + "/a", strings.Repeat("/", api.MaxPath), strings.Repeat("n", api.MaxPath),
		strings.Repeat("a/", api.MaxPath/2),
	} {
		if l, e := tree.Split(path); e != api.ErrText || len(l) != 0 {
			t.Errorf("Split(%q) = %q, %d", path, l, e)
		}
	}
	for _, path := range []string{
		strings.Repeat("a/", api.MaxPath/2) + "a",
		strings.Repeat("n", api.MaxPath+1),
		strings.Repeat("/", api.MaxPath+1), // no path either, but too long comes first
		strings.Repeat("a/", 100000),
	} {
		if l, e := tree.Split(path); e != api.ErrLong || len(l) != 0 {
			t.Errorf("Split of %d bytes = %q, %d", len(path), l, e)
		}
	}
}

func TestP3_1_FormAndSize(t *testing.T) {
	for _, c := range []struct {
		t            api.Tree
		trees, bytes int
	}{
		{file(""), 1, 0},
		{api.Tree{Kind: api.File, Data: []byte{}, Names: []string{}, Kids: []api.Tree{}}, 1, 0},
		{file("abc"), 1, 3},
		{file("\x00/"), 1, 2},
		{tool(""), 1, 0},
		{tool("abc"), 1, 3},
		{link("x"), 1, 1},
		{link("/../a//b/."), 1, 10},
		{link(strings.Repeat("t", api.MaxPath)), 1, api.MaxPath},
		{dir(), 1, 0},
		{api.Tree{Kind: api.Dir, Data: []byte{}, Names: []string{}, Kids: []api.Tree{}}, 1, 0},
		{dir("a", file("x"), "b", link("yy"), "c", dir("a", tool("zzz"))), 5, 6},
		{dir("B", file(""), "a", file(""), "ab", file(""), "b", file(""), "\xff", file("")), 6, 0},
		{dir(strings.Repeat("n", api.MaxEntry), dir()), 2, 0},
		{sample(), 10, 14},
	} {
		trees, size, e := tree.Size(c.t)
		if !tree.Form(c.t) || e != api.OK || trees != c.trees || size != c.bytes {
			t.Errorf("Size(%v) = %d, %d, %d, and not %d, %d", c.t, trees, size, e, c.trees, c.bytes)
		}
	}
}

func TestP3_1_Limits(t *testing.T) {
	for name, c := range map[string]struct {
		t            api.Tree
		trees, bytes int
	}{
		"deep, a file":      {deep(api.MaxDepth, file("x")), api.MaxDepth + 1, 1},
		"deep, a link":      {deep(api.MaxDepth, link("x")), api.MaxDepth + 1, 1},
		"deep, a directory": {deep(api.MaxDepth, dir()), api.MaxDepth + 1, 0},
		"many":              {wide(api.MaxNodes - 1), api.MaxNodes, 0},
		"many, in two":      {dir("a", wide(api.MaxNodes/2-1), "b", wide(api.MaxNodes/2-3), "c", dir()), api.MaxNodes, 0},
		"much in one":       {file(strings.Repeat("x", api.MaxData)), 1, api.MaxData},
		"much in two":       {dir("a", file(strings.Repeat("x", api.MaxData-4)), "b", file("four")), 3, api.MaxData},
		"much, by a link":   {dir("a", file(strings.Repeat("x", api.MaxData-1)), "b", link("y")), 3, api.MaxData},
	} {
		trees, size, e := tree.Size(c.t)
		if !tree.Form(c.t) || e != api.OK || trees != c.trees || size != c.bytes {
			t.Errorf("%s: Size = %d, %d, %d", name, trees, size, e)
		}
	}
	at, beyond := deep(api.MaxDepth-1, dir("a", file(""))), deep(api.MaxDepth-1, dir("a", dir("b", file(""))))
	if !tree.Form(at) || tree.Form(beyond) {
		t.Error("the depth is counted wrong")
	}
}

func TestP3_1_WrongTrees(t *testing.T) {
	for name, x := range samples.Wrong() {
		if tree.Form(x) {
			t.Errorf("%s: it has the form", name)
		}
		if trees, size, e := tree.Size(x); trees != 0 || size != 0 || e != api.ErrForm {
			t.Errorf("%s: Size = %d, %d, %d", name, trees, size, e)
		}
	}
}

// weight is how many trees and bytes there are, of what is no tree, too.
func weight(t api.Tree) int {
	n := 1 + len(t.Data)
	for _, kid := range t.Kids {
		n += weight(kid)
	}
	return n
}

// changes is what x is with one thing changed, at its root or somewhere in it.
func changes(x api.Tree) []api.Tree {
	var l []api.Tree
	add := func(change func(*api.Tree)) {
		c := x
		change(&c)
		l = append(l, c)
	}
	add(func(c *api.Tree) { c.Kind++ })
	add(func(c *api.Tree) { c.Exec = !c.Exec })
	add(func(c *api.Tree) { c.Data = append(bytes.Clone(c.Data), 0) })
	add(func(c *api.Tree) { c.Names = append(slices.Clone(c.Names), "") })
	add(func(c *api.Tree) { c.Kids = append(slices.Clone(c.Kids), api.Tree{}) })
	for i := range x.Data {
		add(func(c *api.Tree) { c.Data = bytes.Clone(c.Data); c.Data[i]++ })
	}
	if len(x.Data) > 0 {
		add(func(c *api.Tree) { c.Data = c.Data[1:] })
	}
	for i := range x.Names {
		add(func(c *api.Tree) { c.Names = slices.Clone(c.Names); c.Names[i] += "x" })
	}
	if len(x.Names) > 0 {
		add(func(c *api.Tree) { c.Names = c.Names[1:] })
	}
	if len(x.Kids) > 0 {
		add(func(c *api.Tree) { c.Kids = c.Kids[1:] })
	}
	for i := range x.Kids {
		for _, kid := range changes(x.Kids[i]) {
			add(func(c *api.Tree) { c.Kids = slices.Clone(c.Kids); c.Kids[i] = kid })
		}
	}
	return l
}

func TestP3_1_SameAndCopy(t *testing.T) {
	d := samples.Dice(1)
	trees := []api.Tree{sample(), file(""), tool(""), link("a"), dir(), {}, wide(100), deep(40, file("x"))}
	for range 100 {
		trees = append(trees, d.Tree(4))
	}
	for _, x := range samples.Wrong() {
		trees = append(trees, x)
	}
	for i, x := range trees {
		if !tree.Same(x, x) || !tree.Same(x, tree.Copy(x)) || !tree.Same(tree.Copy(x), x) {
			t.Errorf("the tree %d isn't the same as its copy: %v", i, x)
		}
		if weight(x) > 1000 { // there would be too many changes
			continue
		}
		for _, y := range changes(x) {
			if tree.Same(x, y) || tree.Same(y, x) {
				t.Errorf("%v and %v are the same", x, y)
			}
			if !tree.Same(y, tree.Copy(y)) {
				t.Errorf("%v isn't the same as its copy", y)
			}
		}
	}
}

func TestP3_1_SameEmptyLists(t *testing.T) {
	for _, kind := range []byte{0, api.File, api.Link, api.Dir} {
		none := api.Tree{Kind: kind}
		empty := api.Tree{Kind: kind, Data: []byte{}, Names: []string{}, Kids: []api.Tree{}}
		if !tree.Same(none, empty) || !tree.Same(empty, none) || !tree.Same(dir("a", none), dir("a", empty)) {
			t.Errorf("nil and empty lists aren't the same, of the kind %d", kind)
		}
		if !tree.Same(tree.Copy(empty), none) {
			t.Errorf("Copy of empty lists: %v", tree.Copy(empty))
		}
	}
}

func TestP3_1_SameKidsByTheirPlaces(t *testing.T) {
	a, b := file("a"), file("b")
	if tree.Same(dir("x", a, "y", b), dir("x", b, "y", a)) {
		t.Error("kids that have changed their places are the same")
	}
	if tree.Same(dir("x", dir("a", a), "y", dir()), dir("x", dir(), "y", dir("a", a))) {
		t.Error("what is in one directory and what is in another is the same")
	}
}

func TestP3_2_At(t *testing.T) {
	s := sample()
	for path, want := range map[string]api.Tree{
		"":       s,
		"a":      s.Kids[0],
		"a/b":    file("text"),
		"a/c":    dir("d", link("../b"), "e", dir()),
		"a/c/d":  link("../b"),
		"a/c/e":  dir(),
		"a-b":    tool("run"),
		"a.b":    file(""),
		"z/\xff": file("\x00\x01\x02"),
		"z":      s.Kids[3],
	} {
		if x, e := tree.At(s, path); e != api.OK || !tree.Same(x, want) {
			t.Errorf("At(%q) = %v, %d", path, x, e)
		}
	}
	for _, leaf := range []api.Tree{file("x"), tool(""), link("a")} {
		if x, e := tree.At(leaf, ""); e != api.OK || !tree.Same(x, leaf) {
			t.Errorf("At of the root of %v = %v, %d", leaf, x, e)
		}
	}
	many := wide(api.MaxNodes - 1)
	for _, i := range []int{0, 1, 2000, api.MaxNodes - 2} {
		many.Kids[i] = file(strconv.Itoa(i))
		if x, e := tree.At(many, many.Names[i]); e != api.OK || !tree.Same(x, many.Kids[i]) {
			t.Errorf("At of the name %d of many = %v, %d", i, x, e)
		}
	}
	bottom := strings.Repeat("d/", api.MaxDepth-1) + "d"
	if x, e := tree.At(deep(api.MaxDepth, file("x")), bottom); e != api.OK || !tree.Same(x, file("x")) {
		t.Errorf("At of the deepest = %v, %d", x, e)
	}
}

func TestP3_2_AtWrong(t *testing.T) {
	s := sample()
	for path, want := range map[string]api.Errno{
		"b": api.ErrNone, "A": api.ErrNone, "a/a": api.ErrNone, "a/d": api.ErrNone, "a/c/e/x": api.ErrNone,
		"a/x/y": api.ErrNone, "x/y/z": api.ErrNone, "aa": api.ErrNone, "zz": api.ErrNone, " ": api.ErrNone,
		"a/b/c": api.ErrKind, "a/b/c/d": api.ErrKind, "a/c/d/x": api.ErrKind, "a-b/x": api.ErrKind, "a.b/x/y": api.ErrKind,
		"/": api.ErrText, "a/": api.ErrText, "a//b": api.ErrText, "a/../a": api.ErrText, "a/b/.": api.ErrText, "x/\x00": api.ErrText,
		strings.Repeat("n", api.MaxEntry): api.ErrNone, strings.Repeat("n", api.MaxEntry+1): api.ErrText,
		strings.Repeat("a/", api.MaxPath/2-1) + "ab": api.ErrNone,
		strings.Repeat("a/", api.MaxPath/2) + "a":    api.ErrLong,
		strings.Repeat("/", api.MaxPath+1):           api.ErrLong,
	} {
		if x, e := tree.At(s, path); e != want || !tree.Same(x, api.Tree{}) {
			t.Errorf("At(%q) = %v, %d", path, x, e)
		}
	}
	for _, leaf := range []api.Tree{file("x"), link("a"), {}} {
		if x, e := tree.At(leaf, "a"); e != api.ErrKind || !tree.Same(x, api.Tree{}) {
			t.Errorf("At in %v = %v, %d", leaf, x, e)
		}
	}
	if x, e := tree.At(dir(), "a"); e != api.ErrNone || !tree.Same(x, api.Tree{}) {
		t.Errorf("At in an empty directory = %v, %d", x, e)
	}
}

func TestP3_2_Paths(t *testing.T) {
	for _, c := range []struct {
		t    api.Tree
		want string
	}{
		{dir("a", dir("b", file("")), "c", file("")), "a a/b c"},
		{sample(), "a a/b a/c a/c/d a/c/e a-b a.b z z/\xff"},
		{dir(), ""},
		{file("x"), ""},
		{link("x"), ""},
		{dir("a", dir("x", dir("y", dir()))), "a a/x a/x/y"},
		{dir("B", link("x"), "a", tool(""), "b", dir()), "B a b"},
	} {
		if l := tree.Paths(c.t); !slices.Equal(l, strings.Fields(c.want)) {
			t.Errorf("Paths(%v) = %q", c.t, l)
		}
	}
}

func TestP3_2_PathsOfLargeTrees(t *testing.T) {
	many := wide(api.MaxNodes - 1)
	if l := tree.Paths(many); !slices.Equal(l, many.Names) {
		t.Errorf("Paths of many: %d", len(l))
	}
	// What a path has at the most is a limit of the texts that are handed in: a tree itself may go further.
	long := strings.Repeat("n", api.MaxEntry)
	x := file("")
	for range api.MaxDepth {
		x = dir(long, x)
	}
	l := tree.Paths(x)
	if len(l) != api.MaxDepth || l[api.MaxDepth-1] != strings.Repeat(long+"/", api.MaxDepth-1)+long {
		t.Errorf("Paths of a deep tree: %d", len(l))
	}
}

func TestP3_2_PathsAndAt(t *testing.T) {
	d := samples.Dice(2)
	for range 200 {
		x := d.Tree(5)
		trees, _, _ := tree.Size(x)
		l := tree.Paths(x)
		if len(l) != trees-1 {
			t.Fatalf("%d paths of %d trees", len(l), trees)
		}
		for i, path := range l {
			if y, e := tree.At(x, path); e != api.OK || !tree.Form(y) {
				t.Fatalf("At(%q) = %v, %d", path, y, e)
			}
			if slices.Contains(l[:i], path) {
				t.Fatalf("%q stands in Paths twice", path)
			}
		}
	}
}

func TestP1_WrongTreesEnd(t *testing.T) {
	for name, x := range samples.Wrong() {
		if l := tree.Paths(x); len(l) != 0 {
			t.Errorf("%s: Paths = %d", name, len(l))
		}
		if y, e := tree.At(x, ""); e != api.OK || !tree.Same(x, y) {
			t.Errorf("%s: At of its root: %d", name, e)
		}
		tree.At(x, "a")
		tree.At(x, "a/q/a")
	}
	for _, x := range []api.Tree{
		{Kind: api.Dir, Names: []string{"a", "b"}, Kids: []api.Tree{file("")}},
		{Kind: api.Dir, Names: []string{"b"}},
	} {
		if y, e := tree.At(x, "b"); e != api.ErrNone || !tree.Same(y, api.Tree{}) {
			t.Errorf("At of a name without a tree = %v, %d", y, e)
		}
	}
}

// TestP1_TreesWithoutBottom goes through what is deeper than a stack that is made small for it: a call that runs over it ends the tests.
func TestP1_TreesWithoutBottom(t *testing.T) {
	defer debug.SetMaxStack(debug.SetMaxStack(1 << 20))
	x, y := deep(50000, file("x")), deep(50000, file("y"))
	if tree.Form(x) || tree.Same(x, y) || !tree.Same(x, tree.Copy(x)) || len(tree.Paths(x)) != 0 {
		t.Error("a tree that is far too deep")
	}
	if z, e := tree.At(x, "d/d/d"); e != api.OK || !tree.Same(dir("d", dir("d", dir("d", z))), x) {
		t.Errorf("At in a tree that is far too deep: %d", e)
	}
	// Two kids at each depth, which are one in memory: whoever goes to the bottom is never done.
	z := file("")
	for range 64 {
		kids := []api.Tree{z, z}
		z = api.Tree{Kind: api.Dir, Names: []string{"a", "b"}, Kids: kids}
	}
	if _, _, e := tree.Size(z); e != api.ErrForm || tree.Form(z) || len(tree.Paths(z)) != 0 {
		t.Errorf("a tree with 2^64 trees: %d", e)
	}
	if tree.Same(z, file("")) {
		t.Error("a tree with 2^64 trees is the same as one")
	}
}

func TestP2_AnswersAreNewMemory(t *testing.T) {
	x := samples.Roomy(sample())
	tree.Form(x)
	tree.Size(x)
	tree.Same(x, x)
	for range 2 {
		if y := tree.Copy(x); !tree.Same(y, sample()) {
			t.Errorf("Copy = %v", y)
		} else {
			samples.Spoil(y)
		}
		for _, path := range []string{"", "a", "a/c", "a/b", "a/c/d", "a/c/e", "z"} {
			want, _ := tree.At(sample(), path)
			if y, e := tree.At(x, path); e != api.OK || !tree.Same(y, want) {
				t.Errorf("At(%q) = %v, %d", path, y, e)
			} else {
				samples.Spoil(y)
			}
		}
		for _, l := range [][]string{tree.Paths(x), first(tree.Split("a/b"))} {
			clear(l[:cap(l)])
		}
		if !samples.Intact(x, sample()) {
			t.Fatal("what was handed in has changed, or its spare room, or an answer shares memory with it")
		}
	}
	if l := tree.Paths(x); len(l) != 9 || l[1] != "a/b" {
		t.Errorf("Paths = %q", l)
	}
	if l := first(tree.Split("a/b")); !slices.Equal(l, []string{"a", "b"}) {
		t.Errorf("Split = %q", l)
	}
}

func first(l []string, _ api.Errno) []string { return l }

// TestP2_ListsOfOneAnswer hands in trees that share their lists, and asks whether those of the copy share them, too.
func TestP2_ListsOfOneAnswer(t *testing.T) {
	common := dir("p", file("text"), "q", link("text"))
	common.Kids[1].Data = common.Kids[0].Data
	x := dir("a", common, "b", common)
	at, _ := tree.At(dir("x", x), "x")
	for _, y := range []api.Tree{tree.Copy(x), at} {
		samples.Spoil(y.Kids[0])
		if !tree.Same(y.Kids[1], common) {
			t.Errorf("two lists of one answer share memory: %v", y.Kids[1])
		}
		y.Kids[1].Kids[0].Data[0] = '#'
		if string(y.Kids[1].Kids[1].Data) != "text" {
			t.Error("two files of one answer share memory")
		}
	}
}

func TestP2_BehindTheCall(t *testing.T) {
	x := sample()
	y := tree.Copy(x)
	at, _ := tree.At(x, "a/c")
	paths := tree.Paths(x)
	samples.Spoil(x)
	if !tree.Same(y, sample()) || !tree.Same(at, sample().Kids[0].Kids[1]) || !slices.Equal(paths, tree.Paths(sample())) {
		t.Error("an answer has kept what was handed in")
	}
}
