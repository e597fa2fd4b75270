package edit_test

import (
	"bytes"
	"slices"
	"strconv"
	"strings"
	"testing"

	"staddle/api"
	"staddle/edit"
	"staddle/nar"
	"staddle/samples"
	"staddle/tree"
)

// longest is a path with as many bytes as one may have.
var longest = strings.Repeat(strings.Repeat("n", api.MaxEntry)+"/", 4) + strings.Repeat("m", api.MaxPath-4*(api.MaxEntry+1))

// right is edits that are right, by what they are.
func right() map[string]api.Edit {
	return map[string]api.Edit{
		"mkdir":             mkdir("a"),
		"drop":              drop("a/b"),
		"put":               put("a/b", sample()),
		"put, a file":       put("a", file("")),
		"put, at the limit": put("a", wide(api.MaxNodes-1)),
		"put, as deep":      put("a", deep(api.MaxDepth, dir())),
		"put, as much":      put("a", file(strings.Repeat("x", api.MaxData))),
		"move":              move("a", "b/c"),
		"move to itself":    move("a", "a"),
		"move into itself":  move("a/b", "a"),
		"the longest path":  mkdir(longest),
		"the longest from":  move(longest, longest),
		"many names":        drop(strings.Repeat("a/", api.MaxPath/2-1) + "ab"),
		"strange names":     mkdir("\xff/.../ /\n"),
		"empty lists":       {Kind: api.ODrop, Path: "a", Tree: api.Tree{Data: []byte{}, Names: []string{}, Kids: []api.Tree{}}},
	}
}

// wrong is edits that aren't, each for one reason alone.
func wrong() map[string]api.Edit {
	l := map[string]api.Edit{"nothing": {}}
	for path := range wrongPaths() {
		name := strconv.Quote(path[:min(10, len(path))]) + strconv.Itoa(len(path))
		l["mkdir "+name] = mkdir(path)
		l["drop "+name] = drop(path)
		l["put "+name] = put(path, file(""))
		l["move to "+name] = move(path, "a")
		l["move from "+name] = move("a", path)
	}
	for name, x := range samples.Wrong() {
		l["put, "+name] = put("a", x)
	}
	for _, kind := range []byte{api.OMkdir, api.OPut, api.ODrop} {
		x := api.Edit{Kind: kind, Path: "a", From: "b"}
		if kind == api.OPut {
			x.Tree = file("")
		}
		l["from, of the kind "+strconv.Itoa(int(kind))] = x
	}
	for i, x := range []api.Tree{file(""), dir(), {Exec: true}, {Data: []byte("x")}, {Names: []string{"a"}}, {Kids: []api.Tree{{}}}, {Kind: 9}} {
		l["mkdir, tree "+strconv.Itoa(i)] = api.Edit{Kind: api.OMkdir, Path: "a", Tree: x}
		l["drop, tree "+strconv.Itoa(i)] = api.Edit{Kind: api.ODrop, Path: "a", Tree: x}
		l["move, tree "+strconv.Itoa(i)] = api.Edit{Kind: api.OMove, Path: "a", From: "b", Tree: x}
	}
	for kind := range 256 {
		if kind < 1 || kind > 4 {
			l["kind "+strconv.Itoa(kind)] = api.Edit{Kind: byte(kind), Path: "a"}
			l["kind "+strconv.Itoa(kind)+" with from"] = api.Edit{Kind: byte(kind), Path: "a", From: "b"}
			l["kind "+strconv.Itoa(kind)+" with a tree"] = api.Edit{Kind: byte(kind), Path: "a", Tree: file("")}
		}
	}
	return l
}

// same: are two edits alike?
func same(x, y api.Edit) bool {
	return x.Kind == y.Kind && x.Path == y.Path && x.From == y.From && tree.Same(x.Tree, y.Tree)
}

// part is a part of an edit as bytes, as the document says it.
func part(s string) string {
	n := len(s)
	return string([]byte{byte(n >> 24), byte(n >> 16), byte(n >> 8), byte(n)}) + s
}

// asBytes is an edit, or what is none, as the document says it.
func asBytes(x api.Edit, archive string) string {
	s := string([]byte{x.Kind}) + part(x.Path) + part(x.From)
	if x.Kind == api.OPut {
		s += part(archive)
	}
	return s
}

// isNone fails where Decode finds edits in some bytes.
func isNone(t *testing.T, what, s string) {
	t.Helper()
	if l, e := edit.Decode([]byte(s)); e != api.ErrForm || len(l) != 0 {
		t.Errorf("%s: Decode = %d edits, %d", what, len(l), e)
	}
}

func TestP5_2_Form(t *testing.T) {
	for name, x := range right() {
		if !edit.Form(x) {
			t.Errorf("%s: it isn't right", name)
		}
	}
	for name, x := range wrong() {
		if edit.Form(x) {
			t.Errorf("%s: it is right", name)
		}
	}
}

func TestP5_2_EncodeExamples(t *testing.T) {
	archive, _ := nar.Write(file("hi"))
	want := "\x01\x00\x00\x00\x01a\x00\x00\x00\x00" +
		"\x02\x00\x00\x00\x03a/f\x00\x00\x00\x00\x00\x00\x00\x78" + string(archive) +
		"\x03\x00\x00\x00\x01b\x00\x00\x00\x01a" +
		"\x04\x00\x00\x00\x05b/f/g\x00\x00\x00\x00"
	if p, e := edit.Encode([]api.Edit{mkdir("a"), put("a/f", file("hi")), move("b", "a"), drop("b/f/g")}); e != api.OK || string(p) != want || len(archive) != 0x78 {
		t.Errorf("Encode = %q, %d", p, e)
	}
	if p, e := edit.Encode(nil); e != api.OK || len(p) != 0 {
		t.Errorf("Encode of nothing = %q, %d", p, e)
	}
	if l, e := edit.Decode(nil); e != api.OK || len(l) != 0 {
		t.Errorf("Decode of nothing = %v, %d", l, e)
	}
}

func TestP5_2_EncodeAndDecode(t *testing.T) {
	var all []api.Edit
	var bytesOfAll string
	for name, x := range right() {
		p, e := edit.Encode([]api.Edit{x})
		archive, _ := nar.Write(x.Tree)
		if e != api.OK || string(p) != asBytes(x, string(archive)) {
			t.Errorf("%s: Encode = %.200q, %d", name, p, e)
		}
		if l, e := edit.Decode(p); e != api.OK || len(l) != 1 || !same(l[0], x) {
			t.Errorf("%s: Decode = %d edits, %d", name, len(l), e)
		}
		all, bytesOfAll = append(all, x), bytesOfAll+string(p)
	}
	if p, e := edit.Encode(all); e != api.OK || string(p) != bytesOfAll {
		t.Errorf("Encode of all: %d bytes, %d", len(p), e)
	}
	if l, e := edit.Decode([]byte(bytesOfAll)); e != api.OK || !slices.EqualFunc(l, all, same) {
		t.Errorf("Decode of all: %d edits, %d", len(l), e)
	}
}

func TestP5_2_EncodeWrong(t *testing.T) {
	for name, x := range wrong() {
		for _, l := range [][]api.Edit{{x}, {mkdir("a"), x}, {x, mkdir("a")}, {put("a", sample()), x, drop("a")}} {
			if p, e := edit.Encode(l); e != api.ErrForm || len(p) != 0 {
				t.Errorf("%s: Encode = %d bytes, %d", name, len(p), e)
			}
		}
	}
}

func TestP5_2_DecodeWrong(t *testing.T) {
	ahead, _ := edit.Encode([]api.Edit{put("a", file("x")), drop("a")})
	for name, x := range wrong() {
		archive, e := nar.Write(x.Tree)
		if x.Kind != api.OPut && !tree.Same(x.Tree, api.Tree{}) {
			continue // bytes do not tell what tree such an edit has
		}
		isNone(t, name, asBytes(x, string(archive)))
		isNone(t, name+", behind others", string(ahead)+asBytes(x, string(archive)))
		isNone(t, name+", ahead of others", asBytes(x, string(archive))+string(ahead))
		if x.Kind == api.OPut && e != api.OK {
			isNone(t, name+", no archive", asBytes(x, "nix-archive-1"))
		}
	}
	archive, _ := nar.Write(file("x"))
	for name, x := range right() {
		if x.Kind != api.OPut {
			isNone(t, name+", with a tree", asBytes(x, "")+part(string(archive)))
			isNone(t, name+", with an empty tree", asBytes(x, "")+part(""))
		}
	}
	isNone(t, "two archives", asBytes(put("a", file("")), string(archive)+string(archive)))
	isNone(t, "an archive and noughts", asBytes(put("a", file("")), string(archive)+"\x00\x00\x00\x00\x00\x00\x00\x00"))
}

func TestP5_2_DecodeWrongLengths(t *testing.T) {
	archive, _ := nar.Write(file("x"))
	whole := asBytes(mkdir("a"), "") + asBytes(put("a/b", file("x")), string(archive)) + asBytes(move("c", "a"), "")
	ends := map[int]bool{0: true, len(asBytes(mkdir("a"), "")): true, len(whole) - len(asBytes(move("c", "a"), "")): true, len(whole): true}
	for n := range len(whole) + 1 {
		if l, e := edit.Decode([]byte(whole[:n])); !ends[n] && (e != api.ErrForm || len(l) != 0) || ends[n] && e != api.OK {
			t.Errorf("Decode of the first %d bytes = %d edits, %d", n, len(l), e)
		}
	}
	for _, more := range []string{"\x00", "\x01", "\x01\x00\x00\x00", "\x04\x00\x00\x00\x01a", "\x04\x00\x00\x00\x01a\x00\x00\x00"} {
		isNone(t, "with more behind it", whole+more)
	}
	for _, length := range []string{"\x00\x00\x00\x00", "\x00\x00\x00\x02", "\x01\x00\x00\x00", "\x00\x00\x01\x00", "\x7f\xff\xff\xff", "\x80\x00\x00\x00", "\x80\x00\x00\x01", "\xff\xff\xff\xff"} {
		isNone(t, "another length of the path", "\x04"+length+"a\x00\x00\x00\x00")
		isNone(t, "another length of the from", "\x03\x00\x00\x00\x01b"+length+"a")
		isNone(t, "another length of the tree", "\x02\x00\x00\x00\x01b\x00\x00\x00\x00"+length+string(archive))
	}
}

// TestP5_2_DecodeAnyChange changes each byte, takes each out and puts one in: what is told then must be what is encoded so.
func TestP5_2_DecodeAnyChange(t *testing.T) {
	whole, _ := edit.Encode([]api.Edit{mkdir("a"), put("a/b", sample()), move("c", "a"), drop("c/b")})
	decoded := 0
	check := func(p []byte) {
		l, e := edit.Decode(p)
		if e == api.ErrForm && len(l) == 0 {
			return
		}
		if q, e2 := edit.Encode(l); e != api.OK || e2 != api.OK || !bytes.Equal(p, q) {
			t.Fatalf("%q: Decode = %v, %d", p, l, e)
		}
		decoded++
	}
	for i := range whole {
		for bit := range 8 {
			p := bytes.Clone(whole)
			p[i] ^= 1 << bit
			check(p)
		}
		check(slices.Delete(bytes.Clone(whole), i, i+1))
		check(slices.Insert(bytes.Clone(whole), i, 0))
		check(slices.Insert(bytes.Clone(whole), i, whole[i]))
	}
	if decoded < 50 {
		t.Errorf("only %d of the changed bytes were edits", decoded)
	}
}

func TestP1_AnyBytesEnd(t *testing.T) {
	d := samples.Dice(7)
	archive, _ := nar.Write(file("x"))
	words := []string{"\x01", "\x02", "\x03", "\x04", part("a"), part("b/c"), part(""), part(""), part(string(archive)), "\x00"}
	for range 20000 {
		var s string
		for range d.Roll(12) {
			s += words[d.Roll(len(words))]
		}
		if l, e := edit.Decode([]byte(s)); e == api.OK {
			if p, _ := edit.Encode(l); string(p) != s {
				t.Fatalf("%q: Decode = %v", s, l)
			}
		}
	}
	for n := range 300 {
		edit.Decode(d.Bytes(n))
		edit.Decode(make([]byte, n))
	}
}

func TestP2_EncodeChangesNothing(t *testing.T) {
	x := samples.Roomy(sample())
	l := append(make([]api.Edit, 0, 4), put("a", x), drop("b"))
	first, _ := edit.Encode(l)
	want := bytes.Clone(first)
	clear(first[:cap(first)])
	if second, e := edit.Encode(l); e != api.OK || !bytes.Equal(second, want) {
		t.Errorf("an answer shares memory with an earlier one: %q, %d", second, e)
	}
	if !samples.Intact(x, sample()) || !same(l[:3][2], api.Edit{}) || !same(l[1], drop("b")) {
		t.Error("what Encode was handed has changed, or its spare room")
	}
}

func TestP2_DecodedIsNewMemory(t *testing.T) {
	l := []api.Edit{put("a", sample()), put("b", sample()), move("c", "a")}
	p, _ := edit.Encode(l)
	room := append(bytes.Clone(p), "spare"...)
	x, _ := edit.Decode(room[:len(p)])
	y, _ := edit.Decode(room[:len(p)])
	samples.Spoil(x[0].Tree)
	if !same(x[1], l[1]) || !same(y[0], l[0]) || string(room) != string(p)+"spare" {
		t.Error("Decode has changed what it was handed, or two of its lists share memory")
	}
	clear(room)
	clear(x[:cap(x)])
	if !slices.EqualFunc(y, l, same) {
		t.Error("an answer of Decode shares memory with what it was handed, or with an earlier one")
	}
}
