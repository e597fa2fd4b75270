package pack_test

import (
	"bytes"
	"crypto/sha256"
	"encoding/binary"
	"fmt"
	"strings"
	"testing"

	"staddle/api"
	"staddle/nar"
	"staddle/pack"
	"staddle/samples"
	"staddle/tree"
	"staddle/valid"
)

// TestP21_1_ReadShort: fewer than 32 bytes are of no form, of more the digest is asked first.
func TestP21_1_ReadShort(t *testing.T) {
	whole := packed(made(t, aPath, file("a"), ""))
	none := sha256.Sum256(nil)
	for n := range 32 {
		refuses(t, "too short", whole[:n], api.ErrForm)
		refuses(t, "noughts", make([]byte, n), api.ErrForm)
		refuses(t, "of a digest", none[:n], api.ErrForm)
	}
	refuses(t, "nothing", nil, api.ErrForm)
	for n := 32; n < len(whole); n++ {
		refuses(t, "cut off", whole[:n], api.ErrSum)
		refuses(t, "noughts", make([]byte, n), api.ErrSum)
	}
	refuses(t, "a byte more", append(bytes.Clone(whole), 0), api.ErrSum)
	refuses(t, "a byte more ahead", append([]byte{0}, whole...), api.ErrSum)
	// What has its digest has the wrong parts then.
	refuses(t, "a digest alone", sealed(""), api.ErrForm)
	for n := range len(whole) - 32 {
		if n != len(pack.Magic)+4 {
			refuses(t, "cut off, with a digest", sealed(string(whole[:n])), api.ErrForm)
		}
	}
	reads(t, "of none", sealed(string(whole[:len(pack.Magic)+4])))
}

// TestP21_1_ReadSum: no bit can be another one.
func TestP21_1_ReadSum(t *testing.T) {
	whole := packed(made(t, aPath, file("a"), ""), made(t, bPath, link("b"), dPath, aPath))
	for i := range whole {
		for bit := range 8 {
			p := bytes.Clone(whole)
			p[i] ^= 1 << bit
			refuses(t, fmt.Sprintf("bit %d of byte %d", bit, i), p, api.ErrSum)
		}
	}
	// The digest is of all that stands ahead of it, and the last thing that is there.
	body, sum := whole[:len(whole)-32], whole[len(whole)-32:]
	folded := sha256.Sum256(sum)
	for what, p := range map[string][]byte{
		"the digest twice":   append(bytes.Clone(whole), sum...),
		"the digest's":       append(bytes.Clone(body), folded[:]...),
		"the digest ahead":   append(bytes.Clone(sum), body...),
		"none":               append(bytes.Clone(body), make([]byte, 32)...),
		"of something else":  append(bytes.Clone(body), sealed("x")[1:]...),
		"in digits":          append(bytes.Clone(body), fmt.Sprintf("%x", sum)...),
		"of what is ahead":   append(bytes.Clone(body), sealed(string(body[4:]))[len(body)-4:]...),
		"without its length": append(append(bytes.Clone(body), 0, 0, 0, 32), sum...),
	} {
		refuses(t, what, p, api.ErrSum)
	}
}

func TestP21_1_ReadForm(t *testing.T) {
	a, b := made(t, aPath, file("a"), ""), made(t, bPath, dir("x", tool("b")), dPath, aPath)
	said, tree := text(a.Info), archive(a.tree)
	whole := parts(pack.Magic, said, tree)
	reads(t, "as it should be", sealed(whole), a)
	long := strings.Repeat("\x00", 4)
	for what, s := range map[string]string{
		"nothing":                       "",
		"no magic":                      parts(said, tree),
		"an empty magic":                parts("", said, tree),
		"another magic":                 parts("staddle-pack-2", said, tree),
		"a shorter magic":               parts("staddle-pack-", said, tree),
		"a longer magic":                parts("staddle-pack-1 ", said, tree),
		"the magic in great letters":    parts("STADDLE-PACK-1", said, tree),
		"an archive's magic":            parts(nar.Magic, said, tree),
		"the magic twice":               parts(pack.Magic, pack.Magic, said, tree),
		"the magic without its length":  pack.Magic + parts(said, tree),
		"no tree":                       parts(pack.Magic, said),
		"no text":                       parts(pack.Magic, tree),
		"the tree ahead":                parts(pack.Magic, tree, said),
		"two texts":                     parts(pack.Magic, said, text(b.Info), tree, archive(b.tree)),
		"a text more":                   whole + part(text(b.Info)),
		"a tree more":                   whole + part(tree),
		"an empty part more":            whole + part(""),
		"two empty parts more":          whole + parts("", ""),
		"an empty text":                 parts(pack.Magic, "", tree),
		"an empty tree":                 parts(pack.Magic, said, ""),
		"a text that is none":           parts(pack.Magic, "x", tree),
		"a text without its end":        parts(pack.Magic, said[:len(said)-1], tree),
		"a line more":                   parts(pack.Magic, said+"\n", tree),
		"a size with a nought ahead":    parts(pack.Magic, strings.Replace(said, "size ", "size 0", 1), tree),
		"a size below 0":                parts(pack.Magic, strings.Replace(said, "size ", "size -", 1), tree),
		"a text of no path":             parts(pack.Magic, strings.Replace(said, "1", "e", 1), tree),
		"references that go":            parts(pack.Magic, said+"ref "+bPath+"\nref "+aPath+"\n", tree),
		"an archive that is none":       parts(pack.Magic, said, "x"),
		"an archive and a byte":         parts(pack.Magic, said, tree+"\x00"),
		"an archive and eight":          parts(pack.Magic, said, tree+long+long),
		"an archive that is cut off":    parts(pack.Magic, said, tree[:len(tree)-8]),
		"an archive in an archive":      parts(pack.Magic, said, tree+tree),
		"a byte more":                   whole + "\x00",
		"three bytes more":              whole + "\x00\x00\x00",
		"a length and nothing":          whole + "\x00\x00\x00\x01",
		"the greatest length":           whole + "\xff\xff\xff\xff",
		"a length of the digest's end":  whole + "\x00\x00\x00\x20",
		"a length into the digest":      parts(pack.Magic, said) + "\x00\x00\x00\x90" + tree,
		"lengths with the lowest ahead": "\x0e\x00\x00\x00" + pack.Magic + parts(said, tree),
		"lengths of eight bytes":        long + part(pack.Magic) + long + part(said) + long + part(tree),
		"parts with noughts behind":     part(pack.Magic) + "\x00\x00" + parts(said, tree),
		"how many there are":            part(pack.Magic) + "\x00\x00\x00\x01" + parts(said, tree),
		"a pack in a pack":              string(packed(a)),
	} {
		refuses(t, what, sealed(s), api.ErrForm)
	}
	for name, x := range wrongInfos(b.Info) {
		refuses(t, name, packed(thing{x, b.tree}), api.ErrForm)
		refuses(t, name, packed(a, thing{x, b.tree}, a), api.ErrForm)
	}
	for n := range len(whole) {
		if n != len(part(pack.Magic)) {
			refuses(t, "cut off", sealed(whole[:n]), api.ErrForm)
		}
	}
}

func TestP21_1_ReadWrongSums(t *testing.T) {
	a, b := made(t, aPath, file("a"), ""), made(t, bPath, dir("x", tool("b")), dPath, aPath)
	for name, x := range wrongSums(b.Info) {
		for _, l := range [][]thing{{{x, b.tree}}, {a, {x, b.tree}}, {{x, b.tree}, a}} {
			refuses(t, name, packed(l...), api.ErrSum)
		}
	}
	for _, x := range []api.Tree{file(""), file("b"), tool("a"), link("a"), dir(), dir("a", a.tree)} {
		refuses(t, "another tree", packed(b, thing{a.Info, x}), api.ErrSum)
	}
	c := made(t, cPath, a.tree, "")
	reads(t, "the same tree", packed(a, c), a, c)
	refuses(t, "the trees of each other", packed(thing{a.Info, b.tree}, thing{b.Info, a.tree}), api.ErrSum)
}

// TestP21_1_ReadFromTheLeft: what stands first has its error first.
func TestP21_1_ReadFromTheLeft(t *testing.T) {
	a := made(t, aPath, file("a"), "")
	wrong := a
	wrong.Size++
	said, tree := text(a.Info), archive(a.tree)
	first := parts(pack.Magic, text(wrong.Info), tree)
	refuses(t, "a sum alone", sealed(first), api.ErrSum)
	for what, s := range map[string]string{
		"a byte more":             "\x00",
		"a length and nothing":    "\xff\xff\xff\xff",
		"a text that is none":     parts("x", tree),
		"an archive that is none": parts(said, "x"),
		"a text alone":            parts(said),
		"two texts":               parts(said, said),
		"the magic":               parts(pack.Magic),
	} {
		refuses(t, "a wrong sum ahead of "+what, sealed(first+s), api.ErrSum)
		refuses(t, "a wrong sum behind "+what, sealed(part(pack.Magic)+s+parts(text(wrong.Info), tree)), api.ErrForm)
		refuses(t, "between: "+what, sealed(parts(pack.Magic, said, tree)+s+parts(text(wrong.Info), tree)), api.ErrForm)
	}
	refuses(t, "no magic", sealed(first[4+len(pack.Magic):]), api.ErrForm)
	refuses(t, "no tree", sealed(parts(pack.Magic, text(wrong.Info))), api.ErrForm)
	refuses(t, "a wrong tree", sealed(parts(pack.Magic, text(wrong.Info), tree+"\x00")), api.ErrForm)
	// All else goes behind the digest of the whole.
	p := sealed(first + "\x00")
	p[len(p)-1] ^= 1
	refuses(t, "all that can be wrong", p, api.ErrSum)
	p = sealed("x")
	p[0] ^= 1
	refuses(t, "no parts, and no digest", p, api.ErrSum)
	refuses(t, "too short for a digest", p[2:], api.ErrForm)
}

// second reads a pack by another way: all parts first, as far as there are whole ones, and then what they say.
func second(p []byte) ([]thing, api.Errno) {
	if len(p) < 32 {
		return nil, api.ErrForm
	}
	rest, sum := p[:len(p)-32], p[len(p)-32:]
	if own := sha256.Sum256(rest); !bytes.Equal(own[:], sum) {
		return nil, api.ErrSum
	}
	var all []string
	for len(rest) >= 4 && int(binary.BigEndian.Uint32(rest)) <= len(rest)-4 {
		n := int(binary.BigEndian.Uint32(rest)) + 4
		all = append(all, string(rest[4:n]))
		rest = rest[n:]
	}
	if len(all) == 0 || all[0] != pack.Magic {
		return nil, api.ErrForm
	}
	var l []thing
	for all = all[1:]; len(all) > 0; all = all[2:] {
		x, e := valid.Decode(all[0])
		if e != api.OK || len(all) < 2 {
			return nil, api.ErrForm
		}
		t, e := nar.Read([]byte(all[1]))
		if e != api.OK {
			return nil, api.ErrForm
		}
		if sum, size, _ := nar.Sum(t); sum != x.Sum || size != x.Size {
			return nil, api.ErrSum
		}
		l = append(l, thing{x, t})
	}
	if len(rest) > 0 {
		return nil, api.ErrForm
	}
	return l, api.OK
}

// checks holds Read of any bytes to a second reader; what it answers.
func checks(t *testing.T, p []byte) api.Errno {
	t.Helper()
	was := bytes.Clone(p)
	want, e := second(p)
	if e != api.OK {
		refuses(t, fmt.Sprintf("%q", p), p, e)
	} else {
		reads(t, fmt.Sprintf("%q", p), p, want...)
		infos, trees := both(want)
		if q, e := pack.Write(infos, trees); e != api.OK || !bytes.Equal(p, q) {
			t.Fatalf("%q: Write of what was read = %q, %d", p, q, e)
		}
	}
	if !bytes.Equal(p, was) {
		t.Fatal("Read has changed what was handed in")
	}
	return e
}

// TestP1_AnyBytesEnd: packs in which something has changed, with a digest that says so, and such that are put together of any parts.
func TestP1_AnyBytesEnd(t *testing.T) {
	a, b := made(t, aPath, file("a"), ""), made(t, bPath, link("b"), dPath, aPath)
	whole := packed(a, b)
	body := string(whole[:len(whole)-32])
	met := map[api.Errno]int{}
	for i := range body {
		for bit := range 8 {
			met[checks(t, sealed(body[:i]+string([]byte{body[i] ^ 1<<bit})+body[i+1:]))]++
		}
		met[checks(t, sealed(body[:i]+body[i+1:]))]++
		met[checks(t, sealed(body[:i]+"\x00"+body[i:]))]++
	}
	dice := samples.Dice(22)
	wrong := a
	wrong.Sum[5]++
	said := []string{text(a.Info), text(b.Info), text(wrong.Info), "", "x"}
	trees := []string{archive(a.tree), archive(b.tree), archive(a.tree), "", "x"}
	for range 20000 {
		s := part(pack.Magic)
		for range dice.Roll(5) {
			i := dice.Roll(2 + dice.Roll(4))
			s += part(said[i])
			if dice.Roll(20) > 0 {
				s += part(trees[(i+dice.Roll(20)/19)%5])
			}
		}
		if dice.Roll(10) == 0 {
			s += string(dice.Bytes(dice.Roll(6)))
		}
		if dice.Roll(30) == 0 {
			s = s[dice.Roll(len(s)):]
		}
		met[checks(t, sealed(s))]++
	}
	for n := range 200 {
		checks(t, dice.Bytes(n))
		checks(t, sealed(string(dice.Bytes(n))))
		checks(t, sealed(part(pack.Magic)+string(dice.Bytes(n))))
	}
	if met[api.OK] < 1000 || met[api.ErrForm] < 1000 || met[api.ErrSum] < 1000 {
		t.Errorf("only %v were met", met)
	}
}

// TestP1_Much: a great pack is gone through, too, and one of far too deep archives.
func TestP1_Much(t *testing.T) {
	var l []thing
	for i := range 5000 {
		l = append(l, made(t, fmt.Sprintf("%032d-n", i), file(strings.Repeat("x", i%2000)), ""))
	}
	infos, trees := both(l)
	p, e := pack.Write(infos, trees)
	is(t, "Write", e, api.OK)
	reads(t, "much", p, l...)
	refuses(t, "empty parts", sealed(part(pack.Magic)+strings.Repeat(part(""), 1<<20)), api.ErrForm)
	refuses(t, "lines", sealed(parts(pack.Magic, strings.Repeat("\n", 1<<20))), api.ErrForm)
	word := func(s string) string {
		n := string(binary.LittleEndian.AppendUint64(nil, uint64(len(s))))
		return n + s + strings.Repeat("\x00", (8-len(s)%8)%8)
	}
	deep := ""
	for _, s := range []string{"(", "type", "directory", "entry", "(", "name", "d", "node"} {
		deep += word(s)
	}
	deep = word(nar.Magic) + strings.Repeat(deep, 100000)
	refuses(t, "deep", sealed(parts(pack.Magic, text(l[0].Info), deep)), api.ErrForm)
}

// TestP2_ReadKeepsNothing: what is handed in stays as it is, and what is answered is new memory, each list apart.
func TestP2_ReadKeepsNothing(t *testing.T) {
	x := dir("f", link("x"), "g", dir("h", tool("b")))
	a, b, c := made(t, aPath, x, "", aPath), made(t, bPath, x, dPath, aPath, bPath), made(t, cPath, x, dPath, aPath, bPath)
	want := packed(a, b, c)
	room := append(bytes.Clone(want), "spare"...)
	p := room[:len(want)]
	for range 2 {
		l, trees, _ := pack.Read(p)
		m, more, _ := pack.Read(p)
		clear(room[:len(want)])
		for i := range l {
			// Each list of the one answer is written over, and all others stay as they were.
			refs := l[i].Refs[:cap(l[i].Refs)]
			clear(refs)
			samples.Spoil(trees[i])
			for k, y := range []thing{a, b, c} {
				if k > i && !same(y, thing{l[k], trees[k]}) {
					t.Fatal("two parts of an answer share memory")
				}
			}
		}
		clear(l[:cap(l)])
		clear(trees[:cap(trees)])
		for k, y := range []thing{a, b, c} {
			if !same(y, thing{m[k], more[k]}) {
				t.Fatal("two answers share memory, or one shares it with what was handed in")
			}
		}
		if string(room[len(want):]) != "spare" {
			t.Fatal("the spare room of what was handed in has changed")
		}
		copy(room, want)
		reads(t, "again", p, a, b, c)
	}
	if !tree.Same(x, dir("f", link("x"), "g", dir("h", tool("b")))) {
		t.Error("a tree has changed")
	}
}
