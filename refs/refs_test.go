package refs_test

import (
	"bytes"
	"runtime/debug"
	"slices"
	"strings"
	"testing"

	"staddle/api"
	"staddle/naming"
	"staddle/refs"
	"staddle/samples"
)

var file, tool, link, dir = samples.File, samples.Tool, samples.Link, samples.Dir

// These are the signs of four digests.
const (
	first  = "0a1b2c3d4f5g6h7i8j9k0l1m2n3p4q5r"
	second = "zyxwvsrqpnmlkjihgfdcba9876543210"
	low    = "00000000000000000000000000000000"
	low1   = "00000000000000000000000000000001"
)

// found fails where other paths than those that are wanted are told of some bytes.
func found(t *testing.T, p string, paths []string, want ...string) {
	t.Helper()
	if l := refs.Bytes([]byte(p), paths); !slices.Equal(l, want) {
		t.Errorf("Bytes(%.200q, %q) = %q, and not %q", p, paths, l, want)
	}
}

// foundIn fails where other paths than those that are wanted are told of a tree.
func foundIn(t *testing.T, x api.Tree, paths []string, want ...string) {
	t.Helper()
	if l := refs.Tree(x, paths); !slices.Equal(l, want) {
		t.Errorf("Tree(%v, %q) = %q, and not %q", x, paths, l, want)
	}
}

func TestP7_1_Bytes(t *testing.T) {
	a, b := first+"-a", second+"-b"
	found(t, "x"+a+"y", []string{a}, a)
	found(t, a, []string{a}, a)
	found(t, first, []string{a}, a)
	found(t, "/staddle/"+a+"/bin/sh\n", []string{a, b}, a)
	found(t, first+second, []string{b, a}, a, b)
	found(t, second+first, []string{a, b}, a, b)
	found(t, second+" "+second+first+first, []string{b, a}, a, b)
	// The name isn't looked for.
	found(t, first+"-another", []string{a}, a)
	found(t, "-a "+second, []string{a, b}, b)
	found(t, "", []string{a, b})
	found(t, "nothing", []string{a, b})
	found(t, "-a -b", []string{a, b})
	found(t, a, nil)
	found(t, "", nil)
	if l := refs.Bytes(nil, []string{a}); len(l) != 0 {
		t.Errorf("Bytes of nothing = %q", l)
	}
}

func TestP7_1_WhereverTheyStand(t *testing.T) {
	a, b := first+"-a", second+"-b"
	for n := range 100 {
		for _, around := range []string{"x", "0", "z", "e", "-", "\x00", "\xff"} {
			ahead := strings.Repeat(around, n)
			found(t, ahead+first, []string{a, b}, a)
			found(t, first+ahead, []string{a, b}, a)
			found(t, ahead+second+ahead+first+ahead, []string{a, b}, a, b)
		}
	}
	found(t, strings.Repeat("0", 100000)+second+strings.Repeat("x", 100000), []string{a, b}, b)
}

func TestP7_1_NearlyADigest(t *testing.T) {
	a := first + "-a"
	for i := range naming.Signs {
		for _, bad := range []string{"", "e", "-", "/", "\x00", "\xff", "\n", "00", strings.ToUpper(first[i : i+1]), strings.Repeat(first[i:i+1], 2), "z"} {
			if s := first[:i] + bad + first[i+1:]; !strings.Contains(s, first) {
				found(t, s, []string{a})
				found(t, s+s, []string{a})
				found(t, s+first, []string{a}, a)
			}
		}
		found(t, first[:i], []string{a})
		found(t, first[i+1:], []string{a})
		found(t, first[:i]+first, []string{a}, a)
		found(t, first+first[:i], []string{a}, a)
	}
	reversed := []byte(first)
	slices.Reverse(reversed)
	found(t, string(reversed), []string{a})
}

func TestP7_1_DigestsThatOverlap(t *testing.T) {
	l := []string{low1 + "-b", low + "-a", "1" + low[1:] + "-c"}
	found(t, low[:31], l)
	found(t, low, l, l[1])
	found(t, low[1:]+"1", l, l[0])
	found(t, low+"1", l, l[1], l[0])
	found(t, "1"+low, l, l[1], l[2])
	found(t, "1"+low[1:]+"1", l, l[0], l[2])
	found(t, "1"+low+"1", l, l[1], l[0], l[2])
}

func TestP7_1_NoPaths(t *testing.T) {
	a := first + "-a"
	none := []string{
		"", first, first + "-", first + "a", first + "-.a", first + "-a b", first + "-" + strings.Repeat("n", api.MaxName+1), first[1:] + "-a", "0" + a, " " + a, "/" + a,
		strings.ToUpper(first) + "-a", "e" + first[1:] + "-a", "-a", "-",
	}
	all := strings.Join(none, " ")
	found(t, all, none)
	found(t, all, append(none, a), a)
	foundIn(t, file(all), none)
	foundIn(t, dir("a", file(all)), append(none, a), a)
	// What is no path has no signs, and takes none from others: the name with a blank is less than a.
	found(t, first, []string{first + "- ", a, first + "-"}, a)
	long := first + "-" + strings.Repeat("n", api.MaxName)
	found(t, first, []string{long}, long)
}

func TestP7_1_TheSameSigns(t *testing.T) {
	a, b, c := first+"-a", first+"-ab", first+"-b"
	for _, l := range [][]string{{a, b, c}, {c, b, a}, {b, a, c, b, a}, {a, a}, {a, c}} {
		found(t, first, l, a)
		found(t, c+b, l, a)
		foundIn(t, dir(first, file(c)), l, a)
	}
	found(t, a, []string{c, b}, b)
	found(t, a, []string{c, c}, c)
	other := second + "-A"
	found(t, first+second, []string{c, other, b, second + "-B"}, b, other)
}

func TestP7_1_TheyRise(t *testing.T) {
	d := samples.Dice(10)
	var paths []string
	var text string
	for i := range 500 {
		p, _ := naming.Path([20]byte(d.Bytes(20)), "n"+strings.Repeat("x", i%20))
		paths = append(paths, p, p)
		text += p[:naming.Signs]
	}
	want := slices.Compact(slices.Sorted(slices.Values(paths)))
	found(t, text, paths, want...)
	foundIn(t, dir("a", file(text)), paths, want...)
}

func TestP7_1_Tree(t *testing.T) {
	a, b, c := first+"-a", second+"-b", low+"-c"
	all := []string{c, b, a}
	foundIn(t, file(a), all, a)
	foundIn(t, tool("#!"+a), all, a)
	foundIn(t, link("/staddle/"+a+"/x"), all, a)
	foundIn(t, dir(first, dir()), all, a)
	foundIn(t, dir("x", dir("y", dir("ahead-"+first+"-behind", file("")))), all, a)
	foundIn(t, dir("x", dir("y", file(b)), "z", link(a)), all, a, b)
	foundIn(t, dir("a", file(b), "b", file(b), second, file(b)), all, b)
	foundIn(t, dir("a", file(a), "b"+second, dir("c", link(c))), all, c, a, b)
	foundIn(t, dir(), all)
	foundIn(t, file(""), all)
	foundIn(t, dir("a", file("nothing")), all)
	foundIn(t, dir("a", file(a)), nil)
	foundIn(t, samples.Deep(api.MaxDepth, file(a)), all, a)
	many := samples.Wide(api.MaxNodes - 1)
	many.Kids[api.MaxNodes-2] = file(b)
	many.Names[0] = "0" + first
	foundIn(t, many, all, a, b)
}

// TestP7_1_ApartInATree: signs that stand in several texts are none, one behind the other as these may be.
func TestP7_1_ApartInATree(t *testing.T) {
	l := []string{first + "-a"}
	for n := 1; n < naming.Signs; n++ {
		head, tail := first[:n], first[n:]
		foundIn(t, dir("a", file(head), "b", file(tail)), l)
		foundIn(t, dir("a", file(tail), "b", file(head)), l)
		foundIn(t, dir(head, file(tail)), l)
		foundIn(t, dir(head, dir(tail, dir())), l)
		foundIn(t, dir("x"+tail, link(head)), l)
		foundIn(t, dir("0"+head, dir(), "1"+tail, dir()), l)
		foundIn(t, dir("a", file(head), "b", file(tail), "c", file(first)), l, l[0])
	}
}

// told is what the document says of Bytes, one path at a time.
func told(p string, paths []string) []string {
	var l []string
	for _, path := range slices.Sorted(slices.Values(paths)) {
		if naming.Is(path) && strings.Contains(p, path[:naming.Signs]) && !slices.ContainsFunc(l, func(s string) bool { return s[:naming.Signs] == path[:naming.Signs] }) {
			l = append(l, path)
		}
	}
	return l
}

// toldOf is what the document says of Tree.
func toldOf(x api.Tree, paths []string) []string {
	l := told(string(x.Data), paths)
	for _, name := range x.Names {
		l = append(l, told(name, paths)...)
	}
	for _, kid := range x.Kids {
		l = append(l, toldOf(kid, paths)...)
	}
	slices.Sort(l)
	return slices.Compact(l)
}

// signsOf is n noughts and ones, many of them alike.
func signsOf(d *samples.Dice, n int) string {
	s := strings.Repeat("0", n)
	for range d.Roll(3) {
		at := d.Roll(n + 1)
		s = (s[:at] + "1" + s[at:])[:n]
	}
	return s
}

func anyPaths(d *samples.Dice) []string {
	var l []string
	for range d.Roll(8) {
		l = append(l, signsOf(d, naming.Signs)+[]string{"-a", "-b", "-ab", "", "-.", "-a"}[d.Roll(6)])
	}
	return l
}

func anyTree(d *samples.Dice, depth int) api.Tree {
	if depth == 0 || d.Roll(3) == 0 {
		return []api.Tree{file(signsOf(d, 70)), tool(signsOf(d, 31)), link(signsOf(d, 33)), dir()}[d.Roll(4)]
	}
	t := dir()
	for range d.Roll(4) {
		t.Names = append(t.Names, signsOf(d, 20+d.Roll(20)))
	}
	slices.Sort(t.Names)
	t.Names = slices.Compact(t.Names)
	for range t.Names {
		t.Kids = append(t.Kids, anyTree(d, depth-1))
	}
	return t
}

// TestP7_1_AsTold holds both calls to the document at many digests that nearly are alike.
func TestP7_1_AsTold(t *testing.T) {
	d := samples.Dice(11)
	met := 0
	for range 5000 {
		paths := anyPaths(&d)
		p := signsOf(&d, d.Roll(120))
		want := told(p, paths)
		found(t, p, paths, want...)
		met += len(want)
		x := anyTree(&d, 3)
		foundIn(t, x, paths, toldOf(x, paths)...)
	}
	if met < 2000 {
		t.Errorf("only %d paths were there to be found", met)
	}
}

func TestP1_WrongTreesEnd(t *testing.T) {
	defer debug.SetMaxStack(debug.SetMaxStack(1 << 20))
	a := first + "-a"
	for _, x := range samples.Wrong() {
		refs.Tree(x, []string{a})
	}
	foundIn(t, samples.Deep(50000, file(a)), []string{a}, a)
	foundIn(t, api.Tree{}, []string{a})
}

// TestP7_1_WrongTrees: of what is no tree all that is there is gone through, too.
func TestP7_1_WrongTrees(t *testing.T) {
	a := []string{first + "-a"}
	for _, x := range []api.Tree{
		{Data: []byte(first)}, {Names: []string{first}}, {Kids: []api.Tree{file(first)}}, {Kind: api.File, Kids: []api.Tree{file(first)}},
		{Kind: api.Dir, Data: []byte(first)}, {Kind: api.Dir, Names: []string{first}}, {Kind: 9, Names: []string{"x", "x"}, Kids: []api.Tree{{}, {}, link(first)}},
		file(strings.Repeat("x", api.MaxData) + first),
	} {
		if l := refs.Tree(x, a); !slices.Equal(l, a) {
			t.Errorf("Tree = %q", l)
		}
	}
}

func TestP1_AnyTextEnds(t *testing.T) {
	d := samples.Dice(12)
	for n := range 200 {
		p := d.Bytes(n)
		if l := refs.Bytes(p, []string{string(p), string(d.Bytes(n)), "", low}); len(l) != 0 {
			t.Errorf("Bytes(%q) = %q", p, l)
		}
	}
}

func TestP2_WhatIsHandedInStays(t *testing.T) {
	a, b := first+"-a", second+"-b"
	room := []string{b, "x", a, a, "spare"}
	paths := room[:4]
	p := append(make([]byte, 0, 100), a+b...)
	x := samples.Roomy(dir("a", file(b), first, dir()))
	for range 2 {
		l, m := refs.Bytes(p, paths), refs.Tree(x, paths)
		if !slices.Equal(l, []string{a, b}) || !slices.Equal(m, l) {
			t.Fatalf("Bytes = %q, Tree = %q", l, m)
		}
		clear(l[:cap(l)])
		clear(m[:cap(m)])
		if !slices.Equal(room, []string{b, "x", a, a, "spare"}) || string(p) != a+b || !bytes.Equal(p[len(p):cap(p)], make([]byte, cap(p)-len(p))) {
			t.Fatal("what was handed in has changed, or its spare room, or an answer shares memory with it")
		}
		if !samples.Intact(x, dir("a", file(b), first, dir())) {
			t.Fatal("the tree that was handed in has changed")
		}
	}
	l := refs.Bytes(p, paths)
	clear(p)
	clear(room)
	if !slices.Equal(l, []string{a, b}) {
		t.Errorf("an answer has kept what was handed in: %q", l)
	}
}
