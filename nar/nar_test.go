package nar_test

import (
	"bytes"
	"crypto/sha256"
	"encoding/binary"
	"runtime/debug"
	"slices"
	"strconv"
	"strings"
	"testing"

	"staddle/api"
	"staddle/base"
	"staddle/nar"
	"staddle/samples"
	"staddle/tree"
)

var file, tool, link, dir, wide, deep = samples.File, samples.Tool, samples.Link, samples.Dir, samples.Wide, samples.Deep

// sample is a tree with something of everything.
func sample() api.Tree {
	return dir(
		"a", dir("b", file("text"), "c", dir("d", link("../b"), "e", dir())),
		"a-b", tool("run"),
		"eightlet", file("contents"),
		"z", file(""),
	)
}

// text is one string of an archive, as the document says it.
func text(s string) string {
	p := binary.LittleEndian.AppendUint64(nil, uint64(len(s)))
	p = append(p, s...)
	for len(p)%8 != 0 {
		p = append(p, 0)
	}
	return string(p)
}

// texts is strings of an archive: the words of each part, which blanks part; what stands in quotes is a word of any bytes.
func texts(parts ...string) string {
	var s string
	for _, part := range parts {
		if strings.HasPrefix(part, `"`) {
			s += text(part[1:])
			continue
		}
		for _, word := range strings.Fields(part) {
			s += text(word)
		}
	}
	return s
}

// told is the archive of a tree, or of what is none, as the document says it.
func told(t api.Tree) string { return text(nar.Magic) + toldTree(t) }

func toldTree(t api.Tree) string {
	s := texts("( type")
	switch t.Kind {
	case api.File:
		s += texts("regular")
		if t.Exec {
			s += texts("executable", `"`)
		}
		s += texts("contents", `"`+string(t.Data))
	case api.Link:
		s += texts("symlink target", `"`+string(t.Data))
	case api.Dir:
		entries := []string{s, texts("directory")}
		for i, name := range t.Names {
			entries = append(entries, texts("entry ( name", `"`+name, "node"), toldTree(t.Kids[i]), texts(")"))
		}
		s = strings.Join(entries, "")
	}
	return s + texts(")")
}

// trees is many trees.
func trees() []api.Tree {
	l := []api.Tree{sample(), dir(), file(""), tool(""), link("x"), link(strings.Repeat("t", api.MaxPath)), dir("\xff", dir())}
	for n := range 20 {
		l = append(l, file(strings.Repeat("\x00", n)), tool(strings.Repeat("\xff", n)), link(strings.Repeat("x", n+1)), dir(strings.Repeat("n", n+1), file("")))
	}
	d := samples.Dice(1)
	for range 200 {
		l = append(l, d.Tree(5))
	}
	return append(l, atLimits()...)
}

// atLimits is trees with as much of something as a tree may have.
func atLimits() []api.Tree {
	return []api.Tree{
		deep(api.MaxDepth, file("x")),
		deep(api.MaxDepth, dir()),
		deep(api.MaxDepth, link("x")),
		wide(api.MaxNodes - 1),
		file(strings.Repeat("x", api.MaxData)),
		dir("a", file(strings.Repeat("x", api.MaxData-1)), "b", link("y")),
		dir(strings.Repeat("n", api.MaxEntry), link(strings.Repeat("t", api.MaxPath))),
	}
}

// wrongTrees is what is of no tree's form, but can be told as if it were.
func wrongTrees() map[string]api.Tree {
	f := file("f")
	return map[string]api.Tree{
		"too deep, a file":      deep(api.MaxDepth+1, f),
		"too deep, a directory": deep(api.MaxDepth+1, dir()),
		"too many":              wide(api.MaxNodes),
		"too much":              file(strings.Repeat("x", api.MaxData+1)),
		"too much, in two":      dir("a", file(strings.Repeat("x", api.MaxData)), "b", link("y")),
		"a name of 81 bytes":    dir(strings.Repeat("n", api.MaxEntry+1), f),
		"no name":               dir("", f),
		"the name .":            dir(".", f),
		"the name ..":           dir("a", f, "b", dir("..", f)),
		"a name with /":         dir("a/b", f),
		"a name with 00":        dir("a\x00", f),
		"names that fall":       dir("b", f, "a", f),
		"a name twice":          dir("a", f, "b", f, "b", f),
		"a link to nothing":     link(""),
		"a link of 401 bytes":   link(strings.Repeat("t", api.MaxPath+1)),
		"a link with 00":        dir("a", link("a\x00")),
	}
}

// wrong fails where Read does not say that some bytes are no archive.
func wrong(t *testing.T, what, archive string) {
	t.Helper()
	if x, e := nar.Read([]byte(archive)); e != api.ErrForm || !tree.Same(x, api.Tree{}) {
		t.Errorf("%s: Read = %d, %v", what, e, x.Names)
	}
}

func TestP4_1_WriteExamples(t *testing.T) {
	p, e := nar.Write(file(""))
	if e != api.OK || len(p) != 112 || !bytes.HasPrefix(p, []byte("\x0d\x00\x00\x00\x00\x00\x00\x00nix-archive-1\x00\x00\x00")) {
		t.Errorf("Write of an empty file: %q, %d", p, e)
	}
	const n = "\x00\x00\x00\x00\x00\x00\x00"
	want := "\x0d" + n + "nix-archive-1\x00\x00\x00" +
		"\x01" + n + "(" + n + "\x04" + n + "type\x00\x00\x00\x00" + "\x09" + n + "directory" + n +
		"\x05" + n + "entry\x00\x00\x00" + "\x01" + n + "(" + n + "\x04" + n + "name\x00\x00\x00\x00" + "\x08" + n + "eightlet" + "\x04" + n + "node\x00\x00\x00\x00" +
		"\x01" + n + "(" + n + "\x04" + n + "type\x00\x00\x00\x00" + "\x07" + n + "regular\x00" +
		"\x0a" + n + "executable\x00\x00\x00\x00\x00\x00" + "\x00" + n + "\x08" + n + "contents" + "\x03" + n + "run\x00\x00\x00\x00\x00" + "\x01" + n + ")" + n +
		"\x01" + n + ")" + n +
		"\x05" + n + "entry\x00\x00\x00" + "\x01" + n + "(" + n + "\x04" + n + "name\x00\x00\x00\x00" + "\x01" + n + "l" + n + "\x04" + n + "node\x00\x00\x00\x00" +
		"\x01" + n + "(" + n + "\x04" + n + "type\x00\x00\x00\x00" + "\x07" + n + "symlink\x00" + "\x06" + n + "target\x00\x00" + "\x09" + n + "eightlet2" + n + "\x01" + n + ")" + n +
		"\x01" + n + ")" + n +
		"\x01" + n + ")" + n
	if p, e := nar.Write(dir("eightlet", tool("run"), "l", link("eightlet2"))); e != api.OK || string(p) != want {
		t.Errorf("Write = %q, %d", p, e)
	}
	if nar.Magic != "nix-archive-1" {
		t.Errorf("Magic = %s", nar.Magic)
	}
}

func TestP4_1_WriteAndRead(t *testing.T) {
	for i, x := range trees() {
		p, e := nar.Write(x)
		if e != api.OK || string(p) != told(x) {
			t.Fatalf("the tree %d: Write = %q, %d", i, p, e)
		}
		if y, e := nar.Read(p); e != api.OK || !tree.Same(x, y) {
			t.Fatalf("the tree %d: Read = %v, %d", i, y, e)
		}
	}
}

func TestP4_1_WrongTrees(t *testing.T) {
	f := file("f")
	l := wrongTrees()
	for name, x := range l {
		wrong(t, name, told(x))
	}
	l["no kind"] = api.Tree{}
	l["kind 4"] = dir("a", api.Tree{Kind: 4})
	l["a file with names"] = api.Tree{Kind: api.File, Names: []string{"a"}, Kids: []api.Tree{f}}
	l["a link to be executed"] = api.Tree{Kind: api.Link, Exec: true, Data: []byte("x")}
	l["a directory with data"] = api.Tree{Kind: api.Dir, Data: []byte("x")}
	l["more names than kids"] = api.Tree{Kind: api.Dir, Names: []string{"a", "b"}, Kids: []api.Tree{f}}
	l["more kids than names"] = api.Tree{Kind: api.Dir, Kids: []api.Tree{f}}
	for name, x := range l {
		if p, e := nar.Write(x); e != api.ErrForm || len(p) != 0 {
			t.Errorf("%s: Write = %d bytes, %d", name, len(p), e)
		}
		if d, n, e := nar.Sum(x); d != [32]byte{} || n != 0 || e != api.ErrForm {
			t.Errorf("%s: Sum = %x, %d, %d", name, d, n, e)
		}
	}
}

// TestP4_1_SumPublished holds Sum to digests that others have published of these trees' archives.
func TestP4_1_SumPublished(t *testing.T) {
	for _, c := range []struct {
		t    api.Tree
		size int
		want string
	}{
		{dir(), 96, "0sjjj9z1dhilhpc8pq4154czrb79z9cm044jvn75kxcjv6v5l2m5"},
		{file(""), 112, "0ip26j2h11n1kgkz36rl4akv694yz65hr72q4kv4b3lxcbi65b3p"},
	} {
		if d, n, e := nar.Sum(c.t); base.Encode(d[:]) != c.want || n != c.size || e != api.OK {
			t.Errorf("Sum(%v) = %s, %d, %d", c.t, base.Encode(d[:]), n, e)
		}
	}
}

func TestP4_SumIsOfTheArchive(t *testing.T) {
	for i, x := range trees() {
		p, _ := nar.Write(x)
		if d, n, e := nar.Sum(x); e != api.OK || d != sha256.Sum256(p) || n != len(p) {
			t.Errorf("the tree %d: Sum = %x, %d, %d", i, d, n, e)
		}
	}
}

// TestP4_OneTreeOneArchive asks of trees that nearly are alike whether their archives, and so their digests, differ.
func TestP4_OneTreeOneArchive(t *testing.T) {
	l := []api.Tree{
		file(""), tool(""), file("\x00"), file("\x00\x00"), file("x"), tool("x"), link("x"), file("x\x00"), link("xx"), dir(),
		dir("x", file("")), dir("x", tool("")), dir("x", dir()), dir("x", link("x")), dir("xx", file("")), dir("x", file("x")),
		dir("a", dir("b", dir()), "c", dir()), dir("a", dir("b", dir(), "c", dir())), dir("a", dir(), "b", dir(), "c", dir()),
		file(told(file(""))), file("xxxxxxxx"), file("xxxxxxxx\x00"),
	}
	seen := map[string]int{}
	for i, x := range l {
		d, n, e := nar.Sum(x)
		if before, ok := seen[string(d[:])]; ok || e != api.OK || n%8 != 0 {
			t.Errorf("the trees %d and %d have one digest: %d", before, i, e)
		}
		seen[string(d[:])] = i
	}
	empty := api.Tree{Kind: api.Dir, Data: []byte{}, Names: []string{}, Kids: []api.Tree{}}
	a, _, _ := nar.Sum(empty)
	b, _, _ := nar.Sum(dir())
	if a != b {
		t.Error("nil and empty lists have two digests")
	}
}

func TestP4_1_ReadWrongWords(t *testing.T) {
	m, f := "nix-archive-1", "( type regular contents f )"
	for _, parts := range [][]string{
		{}, {m}, {m, "("}, {m, "( type"}, {m, "( )"}, {m, "( type )"}, {m, "( type file )"}, {m, "( type Regular contents f )"},
		{f}, {"nix-archive-2", f}, {"nix-archive-", f}, {m, m, f}, {`"` + m + "\x00", f}, {m, f, f}, {m, f, ")"}, {m, f, `"`},
		{m, "( type regular contents f"}, {m, "( type regular contents )"}, {m, "( type regular f )"}, {m, "( type regular )"},
		{m, "( type regular contents f f )"}, {m, "( type regular contents f ( )"}, {m, "( type regular contents f contents f )"},
		{m, "type regular contents f )"}, {m, ") type regular contents f )"}, {m, "( kind regular contents f )"}, {m, "( type", `"`, "contents f )"},
		{m, "( type regular executable contents f )"}, {m, "( type regular executable x contents f )"}, {m, "( type regular contents f executable", `"`, ")"},
		{m, "( type regular executable", `"`, "executable", `"`, "contents f )"}, {m, "( type regular executable", `"`, ")"}, {m, "( type regular executable", `"`, "f )"},
		{m, "( type regular executable", "\"\x00", "contents f )"}, {m, "( type regular target f )"},
		{m, "( type symlink contents f )"}, {m, "( type symlink target )"}, {m, "( type symlink target f"}, {m, "( type symlink target f f )"}, {m, "( type symlink f )"},
		{m, "( type symlink executable", `"`, "target f )"}, {m, "( type symlink )"},
		{m, "( type directory"}, {m, "( type directory ) )"}, {m, "( type directory (", f, ") )"}, {m, "( type directory entry )"}, {m, "( type directory contents f )"},
		{m, "( type directory entry ( name a node", f, ")"}, {m, "( type directory entry ( name a node", f, ") entry )"}, {m, "( type directory entry ( name a node", f, ")", f, ")"},
		{m, "( type directory entry ( name a", f, ") )"}, {m, "( type directory entry ( node", f, "name a ) )"}, {m, "( type directory entry ( a node", f, ") )"},
		{m, "( type directory entry name a node", f, ") )"}, {m, "( type directory entry ( name a node", f, "x )"}, {m, "( type directory entry ( name a node ) )"},
		{m, "( type directory entry ( name a node", f, ") entry ( name a node", f, ") )"}, {m, "( type directory entry ( name b node", f, ") entry ( name a node", f, ") )"},
		{m, "( type directory executable", `"`, ")"}, {m, "( type directory entry ( name", `"`, "node", f, ") )"}, {m, "( type directory entry ( name a node", f, `"`, ") )"},
		{m, "( type directory entry ( name a node", f, ") x )"}, {m, "( type directory entry ( type a node", f, ") )"}, {m, "( type directory x )"},
	} {
		wrong(t, strings.Join(parts, " "), texts(parts...))
	}
	// They are wrong for what the test says, and not for how it says it.
	for _, parts := range [][]string{
		{m, f}, {m, "( type regular executable", `"`, "contents f )"}, {m, "( type symlink target f )"}, {m, "( type directory )"},
		{m, "( type directory entry ( name a node", f, ") entry ( name b node", f, ") )"},
	} {
		p := []byte(texts(parts...))
		x, e := nar.Read(p)
		if q, _ := nar.Write(x); e != api.OK || !bytes.Equal(p, q) {
			t.Errorf("%q: Read = %v, %d", parts, x, e)
		}
	}
}

func TestP4_1_ReadWrongLengths(t *testing.T) {
	whole := told(sample())
	for n := range whole {
		wrong(t, "the first "+strconv.Itoa(n), whole[:n])
	}
	for _, more := range []string{"\x00", ")", strings.Repeat("\x00", 7), strings.Repeat("\x00", 8), text(")"), whole} {
		wrong(t, "with more behind it", whole+more)
		wrong(t, "with more ahead of it", more+whole)
	}
	place := strings.Index(whole, text("text"))
	for _, n := range []uint64{0, 3, 9, 16, 1 << 31, 1 << 32, 1<<32 + 4, 1 << 60, 1<<63 - 1, 1 << 63, 1<<63 + 4, 1<<64 - 8, 1<<64 - 7, 1<<64 - 1} {
		p := []byte(whole)
		binary.LittleEndian.PutUint64(p[place:], n)
		wrong(t, "a length of "+strconv.FormatUint(n, 10), string(p))
		last := p[len(p)-16:]
		copy(p[place:], whole[place:place+8])
		binary.LittleEndian.PutUint64(last, n)
		wrong(t, "a last length of "+strconv.FormatUint(n, 10), string(p))
	}
	wrong(t, "a file without padding", strings.Replace(told(file("abc")), "abc\x00\x00\x00\x00\x00", "abc", 1))
	wrong(t, "a file with less padding", strings.Replace(told(file("abc")), "abc\x00\x00\x00\x00\x00", "abc\x00", 1))
	wrong(t, "a file with more padding", strings.Replace(told(file("abc")), "abc", "abc\x00\x00\x00\x00\x00\x00\x00\x00", 1))
	wrong(t, "an empty file with padding", strings.Replace(told(file("")), text(""), text("")+"\x00\x00\x00\x00\x00\x00\x00\x00", 1))
}

func TestP4_1_ReadPadding(t *testing.T) {
	for n := 1; n <= 16; n++ {
		data := strings.Repeat("x", n)
		whole := told(file(data))
		from := strings.Index(whole, data) + n
		for at := from; at%8 != 0; at++ {
			for bit := range 8 {
				p := []byte(whole)
				p[at] = 1 << bit
				wrong(t, strconv.Itoa(n)+" bytes, and something behind them", string(p))
			}
		}
	}
}

// TestP4_1_ReadAnyChange changes each byte, takes each out and puts one in: what is read then must be what is written so.
func TestP4_1_ReadAnyChange(t *testing.T) {
	whole := []byte(told(sample()))
	read := 0
	check := func(p []byte) {
		before := bytes.Clone(p)
		x, e := nar.Read(p)
		if !bytes.Equal(p, before) {
			t.Fatal("Read has changed what was handed in")
		}
		if e == api.ErrForm && tree.Same(x, api.Tree{}) {
			return
		}
		if q, e2 := nar.Write(x); e != api.OK || e2 != api.OK || !bytes.Equal(p, q) {
			t.Fatalf("%q: Read = %v, %d", p, x, e)
		}
		read++
	}
	for i := range whole {
		for bit := range 8 {
			p := bytes.Clone(whole)
			p[i] ^= 1 << bit
			check(p)
		}
		check(slices.Delete(bytes.Clone(whole), i, i+1))
		check(slices.Insert(bytes.Clone(whole), i, 0))
		check(slices.Insert(bytes.Clone(whole), i, whole[i]))
		for j := i; j <= len(whole); j += 8 {
			check(slices.Delete(bytes.Clone(whole), i, j))
		}
	}
	// The bytes of data and of names may be other ones, and are read.
	if read < 8*len("textcontentsrun") {
		t.Errorf("only %d of the changed archives were read", read)
	}
}

func TestP1_AnyBytesEnd(t *testing.T) {
	d := samples.Dice(3)
	words := []string{"nix-archive-1", "(", ")", "type", "regular", "symlink", "directory", "executable", "", "contents", "target", "entry", "name", "node", "a", "b"}
	for range 20000 {
		s := text(nar.Magic)
		for range d.Roll(30) {
			s += text(words[d.Roll(len(words))])
		}
		p := []byte(s)
		if x, e := nar.Read(p); e == api.OK {
			if q, _ := nar.Write(x); !bytes.Equal(p, q) {
				t.Fatalf("%q: Read = %v", p, x)
			}
		}
	}
	for n := range 300 {
		wrong(t, "noughts", string(make([]byte, n)))
		p := d.Bytes(n)
		wrong(t, "any bytes", string(p))
		wrong(t, "any bytes behind the magic", text(nar.Magic)+string(p))
	}
	if _, e := nar.Read(nil); e != api.ErrForm {
		t.Errorf("Read of nothing: %d", e)
	}
}

// TestP1_DepthsWithoutEnd goes through what is deeper than a stack that is made small for it: a call that runs over it ends the tests.
func TestP1_DepthsWithoutEnd(t *testing.T) {
	defer debug.SetMaxStack(debug.SetMaxStack(1 << 20))
	const n = 50000
	ahead, behind := texts("( type directory entry ( name d node"), texts(") )")
	wrong(t, "far too deep", text(nar.Magic)+strings.Repeat(ahead, n)+toldTree(file(""))+strings.Repeat(behind, n))
	wrong(t, "far too deep, and cut off", text(nar.Magic)+strings.Repeat(ahead, n))
	if _, e := nar.Write(deep(n, file(""))); e != api.ErrForm {
		t.Errorf("far too deep: Write: %d", e)
	}
	if _, _, e := nar.Sum(deep(n, file(""))); e != api.ErrForm {
		t.Errorf("far too deep: Sum: %d", e)
	}
}

// lists is how each of a tree's lists of bytes stands in memory, with its spare room.
func lists(t api.Tree) [][]byte {
	l := [][]byte{t.Data[:cap(t.Data)]}
	for _, kid := range t.Kids {
		l = append(l, lists(kid)...)
	}
	return l
}

func TestP2_AnswersAreNewMemory(t *testing.T) {
	room := append([]byte(told(sample())), "spare"...)
	before := bytes.Clone(room)
	p := room[:len(room)-5]
	x, _ := nar.Read(p)
	y, _ := nar.Read(p)
	l := append(lists(x), lists(y)...)
	for i := range l {
		for j := range l[i] {
			l[i][j] = byte(i)
		}
	}
	for i := range l {
		if len(l[i]) != bytes.Count(l[i], []byte{byte(i)}) {
			t.Error("two lists of Read's answers share memory")
		}
	}
	if !bytes.Equal(room, before) {
		t.Error("what Read was handed has changed, or its spare room, or an answer shares memory with it")
	}
	x, _ = nar.Read(p)
	clear(room)
	if !tree.Same(x, sample()) {
		t.Error("Read has kept what was handed in")
	}
	for _, names := range [][]string{x.Names, x.Kids[0].Names} {
		clear(names[:cap(names)])
	}
	for _, kids := range [][]api.Tree{x.Kids[0].Kids, x.Kids} {
		clear(kids[:cap(kids)])
	}
	if x, e := nar.Read(before[:len(p)]); e != api.OK || !tree.Same(x, sample()) {
		t.Errorf("Read = %v, %d", x, e)
	}
}

func TestP2_WriteKeepsNothing(t *testing.T) {
	x := sample()
	x.Kids[1].Data = append(make([]byte, 0, 9), "run"...)
	first, _ := nar.Write(x)
	clear(first[:cap(first)])
	if spare := x.Kids[1].Data[:9]; string(spare) != "run\x00\x00\x00\x00\x00\x00" {
		t.Errorf("what Write was handed has changed: %q", spare)
	}
	sum, size, _ := nar.Sum(x)
	second, e := nar.Write(x)
	if e != api.OK || string(second) != told(sample()) || sum != sha256.Sum256(second) || size != len(second) {
		t.Errorf("Write = %q, %d", second, e)
	}
	if !tree.Same(x, sample()) {
		t.Errorf("what was handed in is %v", x)
	}
}
