package pack_test

import (
	"bytes"
	"crypto/sha256"
	"encoding/binary"
	"encoding/hex"
	"fmt"
	"slices"
	"strings"
	"testing"

	"staddle/api"
	"staddle/nar"
	"staddle/pack"
	"staddle/samples"
	"staddle/tree"
	"staddle/valid"
)

var file, tool, link, dir = samples.File, samples.Tool, samples.Link, samples.Dir

// aPath, bPath and cPath rise; dPath is a derivation's.
var aPath, bPath, cPath, dPath = samples.Path("1", "a"), samples.Path("2", "b"), samples.Path("3", "c"), samples.Path("d", "d.drv")

// is fails where a call answers another error.
func is(t *testing.T, what string, e, want api.Errno) {
	t.Helper()
	if e != want {
		t.Fatalf("%s = %d, and not %d", what, e, want)
	}
}

// thing is a path with its tree.
type thing struct {
	api.Info
	tree api.Tree
}

// made: a path with its tree, that some derivation has made, and that refers to some paths.
func made(t *testing.T, path string, x api.Tree, from string, refs ...string) thing {
	t.Helper()
	info, e := valid.Make(path, x, refs, from)
	is(t, "Make", e, api.OK)
	return thing{info, x}
}

// both: what is known of some things, and their trees.
func both(l []thing) ([]api.Info, []api.Tree) {
	var infos []api.Info
	var trees []api.Tree
	for _, x := range l {
		infos = append(infos, x.Info)
		trees = append(trees, x.tree)
	}
	return infos, trees
}

// text: what is known of a path, as the document says it.
func text(x api.Info) string {
	s := fmt.Sprintf("path %s\nsum %x\nsize %d\nfrom %s\n", x.Path, x.Sum, x.Size, x.From)
	for _, ref := range x.Refs {
		s += "ref " + ref + "\n"
	}
	return s
}

// archive: a tree's.
func archive(x api.Tree) string {
	p, _ := nar.Write(x)
	return string(p)
}

// part: some bytes with their number ahead.
func part(s string) string {
	return string(binary.BigEndian.AppendUint32(nil, uint32(len(s)))) + s
}

// parts: each of them, one behind the other.
func parts(l ...string) string {
	var s strings.Builder
	for _, p := range l {
		s.WriteString(part(p))
	}
	return s.String()
}

// sealed: some bytes, and their digest.
func sealed(s string) []byte {
	sum := sha256.Sum256([]byte(s))
	return append([]byte(s), sum[:]...)
}

// packed: the pack of some things, as the document says it; also of what none can be made of.
func packed(l ...thing) []byte {
	all := []string{pack.Magic}
	for _, x := range l {
		all = append(all, text(x.Info), archive(x.tree))
	}
	return sealed(parts(all...))
}

// same: is of both the same known, and are their trees the same?
func same(x, y thing) bool {
	return text(x.Info) == text(y.Info) && tree.Same(x.tree, y.tree)
}

// reads fails where Read doesn't answer some things.
func reads(t *testing.T, what string, p []byte, want ...thing) {
	t.Helper()
	l, trees, e := pack.Read(p)
	if e != api.OK || len(l) != len(want) || len(trees) != len(want) {
		t.Fatalf("%s: Read = %d things, %d trees, %d", what, len(l), len(trees), e)
	}
	for i, x := range want {
		if !same(x, thing{l[i], trees[i]}) {
			t.Fatalf("%s: Read has %v, %v, and not %v", what, l[i], trees[i], x)
		}
	}
}

// refuses fails where Read answers another error, or something beside it.
func refuses(t *testing.T, what string, p []byte, want api.Errno) {
	t.Helper()
	if l, trees, e := pack.Read(p); e != want || l != nil || trees != nil {
		t.Errorf("%s: Read = %d things, %d trees, %d, and not %d", what, len(l), len(trees), e, want)
	}
}

// no fails where Write answers another error, or something beside it.
func no(t *testing.T, what string, want api.Errno, l ...thing) {
	t.Helper()
	infos, trees := both(l)
	if p, e := pack.Write(infos, trees); e != want || p != nil {
		t.Errorf("%s: Write = %d bytes, %d, and not %d", what, len(p), e, want)
	}
}

// lists: of what packs are made.
func lists(t *testing.T) map[string][]thing {
	t.Helper()
	a := made(t, aPath, file("a"), "")
	b := made(t, bPath, dir("d", dir(), "f", link("../x"), "run", tool("x")), dPath, aPath, bPath)
	var many, refs []string
	for i := range 40 {
		many = append(many, samples.Path(string("0123456789abcdfghijklmnpqrsvwxyz"[i%32]), fmt.Sprintf("n%d", i)))
	}
	for i := range 3000 {
		refs = append(refs, fmt.Sprintf("%032d-r", i))
	}
	l := map[string][]thing{
		"none":                    nil,
		"one":                     {a},
		"two":                     {a, b},
		"two, the other way":      {b, a},
		"one twice":               {a, b, a, a},
		"one with two trees":      {a, made(t, aPath, file("A"), dPath)},
		"what isn't there":        {b},
		"a loop":                  {made(t, aPath, file("a"), "", bPath), made(t, bPath, file("b"), "", aPath)},
		"an empty tree":           {made(t, aPath, dir(), ""), made(t, bPath, file(""), "")},
		"many references":         {made(t, aPath, file("a"), aPath, refs...), a},
		"the greatest name":       {made(t, samples.Path("z", strings.Repeat("z", api.MaxName)), link("z"), "")},
		"much":                    {made(t, aPath, file(strings.Repeat("x", api.MaxData)), ""), a},
		"deep":                    {made(t, aPath, samples.Deep(api.MaxDepth, file("x")), ""), a},
		"wide":                    {made(t, aPath, samples.Wide(api.MaxNodes-1), ""), a},
		"a tree that is a pack":   {made(t, aPath, file(string(packed(a, b))), ""), b},
		"a tree of other's texts": {made(t, aPath, file(text(b.Info)+archive(a.tree)), ""), b},
	}
	dice := samples.Dice(21)
	for _, path := range many {
		l["many"] = append(l["many"], made(t, path, dice.Tree(3), "", many[dice.Roll(40)], many[dice.Roll(40)]))
	}
	return l
}

// TestP21_1_Bytes holds packs to digests of them that another program has found.
func TestP21_1_Bytes(t *testing.T) {
	a := made(t, aPath, file("a"), "")
	b := made(t, samples.Path("0", "b"), dir("f", link("../x"), "run", tool(strings.Repeat("x", 300))), dPath, aPath, samples.Path("0", "b"))
	for _, c := range []struct {
		l    []thing
		size int
		end  string
		sum  string
	}{
		{nil, 50, "509cc90c2b12734a12af98d62e3b3b7da54f0373c1b33b972cb9d5827e762662", "804e3925dc9888d17ff3f0cadc05ecb41673ec77ed91efe12960a1c35f3be36d"},
		{[]thing{a}, 302, "2cbc62c8f43b546d582dfb31b6f990b7d28ce2b0498597f713173ec4c7ce7a78", "4c7389e8cf5edf029f00bf1a91400f7e2d8e37a59d37cfddd3e40b40bec7b1db"},
		{[]thing{a, b}, 1358, "52bca4254172555f509fc1d4aa64f8fd05560d2a2dc7710966c4c8fcc62b7a68", "64376b5aa74abd1cc54d254e3d4798435f4140e485214d51d7e98b9ee79c2814"},
		{[]thing{b, a}, 1358, "b9b95ee0889a61d1ebec2ecc8f1912e8f0415e5744a78be37e3ae92f0536eecd", "09e0d436ae6526b3da3adca030ba66dcd77d70766864f467c7e44278fec6c99d"},
	} {
		infos, trees := both(c.l)
		p, e := pack.Write(infos, trees)
		if sum := sha256.Sum256(p); e != api.OK || len(p) != c.size || hex.EncodeToString(sum[:]) != c.sum || hex.EncodeToString(p[len(p)-32:]) != c.end {
			t.Errorf("Write = %q, %d", p, e)
		}
		reads(t, "of that", p, c.l...)
	}
	p, _ := pack.Write([]api.Info{a.Info}, []api.Tree{a.tree})
	want := "\x00\x00\x00\x0estaddle-pack-1\x00\x00\x00\x7cpath " + aPath + "\nsum "
	if !strings.HasPrefix(string(p), want) || pack.Magic != "staddle-pack-1" {
		t.Errorf("Write = %q", p)
	}
}

func TestP21_1_WriteAndRead(t *testing.T) {
	for name, l := range lists(t) {
		infos, trees := both(l)
		p, e := pack.Write(infos, trees)
		if e != api.OK || !bytes.Equal(p, packed(l...)) {
			t.Errorf("%s: Write = %d bytes, %d", name, len(p), e)
		}
		reads(t, name, p, l...)
		q, e := pack.Write(slices.Concat(infos, []api.Info{}), slices.Concat(trees, []api.Tree{}))
		if e != api.OK || !bytes.Equal(p, q) {
			t.Errorf("%s, again: Write = %d bytes, %d", name, len(q), e)
		}
	}
}

// wrongInfos: what can't be known of any path, though the tree is the one.
func wrongInfos(x api.Info) map[string]api.Info {
	l := map[string]api.Info{"nothing": {}}
	for name, change := range map[string]func(*api.Info){
		"no path":            func(y *api.Info) { y.Path = "" },
		"another path":       func(y *api.Info) { y.Path = "/" + y.Path },
		"a size below 0":     func(y *api.Info) { y.Size = -1 },
		"from no path":       func(y *api.Info) { y.From = "x" },
		"refers to no path":  func(y *api.Info) { y.Refs = []string{""} },
		"references that go": func(y *api.Info) { y.Refs = []string{bPath, aPath} },
		"a reference twice":  func(y *api.Info) { y.Refs = []string{aPath, aPath} },
	} {
		y := x
		change(&y)
		l[name] = y
	}
	return l
}

// wrongSums: what may be known, but not of x's tree.
func wrongSums(x api.Info) map[string]api.Info {
	l := map[string]api.Info{}
	for i := range x.Sum {
		y := x
		y.Sum[i] ^= 1 << (i % 8)
		l[fmt.Sprintf("byte %d of the digest", i)] = y
	}
	for _, size := range []int{0, 1, x.Size - 8, x.Size - 1, x.Size + 1, x.Size + 8, 1<<32 + x.Size, 1<<63 - 1} {
		y := x
		y.Size = size
		l[fmt.Sprintf("the size %d", size)] = y
	}
	y := x
	y.Sum = [32]byte{}
	l["no digest"] = y
	return l
}

func TestP21_1_WriteWrong(t *testing.T) {
	a, b := made(t, aPath, file("a"), ""), made(t, bPath, dir("x", tool("b")), dPath, aPath)
	for name, x := range wrongInfos(b.Info) {
		for _, l := range [][]thing{{{x, b.tree}}, {a, {x, b.tree}}, {{x, b.tree}, a}, {{x, api.Tree{}}}, {{x, a.tree}}} {
			no(t, name, api.ErrForm, l...)
		}
	}
	for name, x := range samples.Wrong() {
		for _, l := range [][]thing{{{b.Info, x}}, {a, {b.Info, x}}, {{b.Info, x}, a}} {
			no(t, name, api.ErrForm, l...)
		}
	}
	for name, x := range wrongSums(b.Info) {
		for _, l := range [][]thing{{{x, b.tree}}, {a, {x, b.tree}}, {{x, b.tree}, a}} {
			no(t, name, api.ErrSum, l...)
		}
	}
	for _, x := range []api.Tree{file(""), file("b"), tool("a"), link("a"), dir(), dir("a", a.tree)} {
		no(t, "another tree", api.ErrSum, b, thing{a.Info, x})
	}
}

// TestP21_1_WriteFirst: the first path's error goes first; ahead of all is that there are not as many of the one as of the other.
func TestP21_1_WriteFirst(t *testing.T) {
	a := made(t, aPath, file("a"), "")
	form, archive, sum := a, a, a
	form.Path, archive.tree, sum.Sum[0] = "x", api.Tree{}, 1^sum.Sum[0]
	no(t, "the sum first", api.ErrSum, a, sum, form, archive)
	no(t, "what is known first", api.ErrForm, a, form, sum)
	no(t, "the tree first", api.ErrForm, archive, sum)
	// Of one path what is known goes first, and the tree ahead of its digest.
	two := sum
	two.Path = "x"
	no(t, "both of one", api.ErrForm, two, sum)
	two = sum
	two.tree = samples.Wide(api.MaxNodes)
	no(t, "no tree, so no digest", api.ErrForm, two, sum)
	for _, n := range []int{0, 1, 2, 4, 9} {
		for _, x := range []thing{a, form, archive, sum} {
			infos, trees := both([]thing{x, x, x, x, x, x, x, x, x})
			for _, k := range []int{3, 5} {
				if p, e := pack.Write(infos[:n], trees[:k]); e != api.ErrArg || p != nil {
					t.Errorf("of %d and %d: Write = %d bytes, %d", n, k, len(p), e)
				}
			}
		}
	}
	for _, list := range [][]api.Info{nil, {}} {
		for _, trees := range [][]api.Tree{nil, {}} {
			if p, e := pack.Write(list, trees); e != api.OK || !bytes.Equal(p, packed()) {
				t.Errorf("of none Write = %q, %d", p, e)
			}
		}
	}
}

// TestP1_Deep: trees far deeper than any are no trees, and that is told.
func TestP1_Deep(t *testing.T) {
	for _, n := range []int{api.MaxDepth + 1, 100000} {
		no(t, "too deep", api.ErrForm, thing{api.Info{Path: aPath}, samples.Deep(n, file("x"))})
	}
}

// TestP2_WriteKeepsNothing: what is handed in stays as it is, its spare room too, and a pack is new memory.
func TestP2_WriteKeepsNothing(t *testing.T) {
	a, b := made(t, aPath, file("a"), ""), made(t, bPath, dir("f", link("x"), "g", dir("h", tool("b"))), dPath, aPath, bPath)
	want := packed(a, b)
	infos := append([]api.Info{a.Info, b.Info}, api.Info{Path: "spare"})
	infos[1].Refs = append(slices.Clone(b.Refs), "spare", "room")[:2]
	trees := append([]api.Tree{samples.Roomy(a.tree), samples.Roomy(b.tree)}, file("spare"))
	var earlier []byte
	for range 2 {
		p, e := pack.Write(infos[:2], trees[:2])
		if e != api.OK || !bytes.Equal(p, want) {
			t.Fatalf("Write = %q, %d", p, e)
		}
		earlier = p
		q, _ := pack.Write(infos[:2], trees[:2])
		clear(q[:cap(q)])
	}
	if text(infos[0]) != text(a.Info) || text(infos[1]) != text(b.Info) || infos[2].Path != "spare" || !slices.Equal(infos[1].Refs[:4][2:], []string{"spare", "room"}) {
		t.Errorf("what was known is %v now", infos)
	}
	if !samples.Intact(trees[0], a.tree) || !samples.Intact(trees[1], b.tree) || !tree.Same(trees[2], file("spare")) {
		t.Errorf("the trees are %v now", trees)
	}
	for _, x := range trees[:2] {
		samples.Spoil(x)
	}
	clear(infos[1].Refs[:4])
	if !bytes.Equal(earlier, want) {
		t.Error("a pack shares memory with what was handed in")
	}
}
