package profile_test

import (
	"math"
	"slices"
	"strconv"
	"strings"
	"testing"

	"staddle/api"
	"staddle/profile"
	"staddle/samples"
	"staddle/sector"
	"staddle/tree"
	"staddle/valid"
)

var file, link, dir = samples.File, samples.Link, samples.Dir

// The paths that are valid in the stores of these tests, and one that is valid in none.
var (
	aPath = samples.Path("a", "a")
	bPath = samples.Path("b", "b.drv")
	cPath = samples.Path("0", "c")
	none  = samples.Path("n", "n")
)

// is fails where a call answers another error.
func is(t *testing.T, what string, e, want api.Errno) {
	t.Helper()
	if e != want {
		t.Fatalf("%s = %d, and not %d", what, e, want)
	}
}

// numbered fails where a call answers another number, or another error.
func numbered(t *testing.T, what string, n int, e api.Errno, wantN int, want api.Errno) {
	t.Helper()
	if n != wantN || e != want {
		t.Fatalf("%s = %d, %d, and not %d, %d", what, n, e, wantN, want)
	}
}

// bare: a device on which some paths are valid, and these.
func bare(t *testing.T, sectors int) (*sector.Device, *valid.DB) {
	t.Helper()
	d, b, e := samples.Store(sectors)
	is(t, "Store", e, api.OK)
	for i, path := range []string{aPath, bPath, cPath} {
		is(t, "Keep", samples.Keep(b, path, file(strconv.Itoa(i)), ""), api.OK)
	}
	return d, b
}

// falls lets the power go off and on, and all that is on its way is lost; the paths that stand on the device then.
func falls(t *testing.T, d *sector.Device) *valid.DB {
	t.Helper()
	b, e := samples.Fallen(d)
	is(t, "Fallen", e, api.OK)
	return b
}

// stays fails where a call changes anything.
func stays(t *testing.T, b *valid.DB, call func()) {
	t.Helper()
	was := b.FS().Tree()
	call()
	if !tree.Same(b.FS().Tree(), was) {
		t.Fatal("something has changed")
	}
}

// sets fails where a path doesn't become a generation, of a number, that counts.
func sets(t *testing.T, b *valid.DB, name, path string, want int) {
	t.Helper()
	n, e := profile.Set(b, name, path)
	numbered(t, "Set", n, e, want, api.OK)
}

// lists fails where a profile has other generations, or another one counts; of each is handed in the number and the path, with a blank between.
func lists(t *testing.T, b *valid.DB, name string, now int, gens ...string) {
	t.Helper()
	l, n, e := profile.List(b, name)
	var got []string
	for _, x := range l {
		got = append(got, strconv.Itoa(x.N)+" "+x.Path)
	}
	if e != api.OK || n != now || !slices.Equal(got, gens) {
		t.Fatalf("List(%s) = %v, %d, %d, and not %v, %d", name, got, n, e, gens, now)
	}
}

// standsAt fails where something else stands at a path of the tree.
func standsAt(t *testing.T, b *valid.DB, path string, want api.Tree) {
	t.Helper()
	x, e := b.FS().At(path)
	if e != api.OK || !tree.Same(x, want) {
		t.Fatalf("at %s stands %v, %d, and not %v", path, x, e, want)
	}
}

// calls: each call that is of a profile, with its error; beside one it answers nothing.
func calls(t *testing.T, b *valid.DB, name string, n int) map[string]api.Errno {
	t.Helper()
	l := map[string]api.Errno{}
	gens, now, e := profile.List(b, name)
	if l["List"] = e; e != api.OK && (len(gens) > 0 || now != 0) {
		t.Fatalf("List = %v, %d, %d", gens, now, e)
	}
	l["Switch"] = profile.Switch(b, name, n)
	l["Drop"] = profile.Drop(b, name, n)
	for what, call := range map[string]func(*valid.DB, string) (int, api.Errno){"Back": profile.Back, "Old": profile.Old} {
		k, e := call(b, name)
		if l[what] = e; e != api.OK && k != 0 {
			t.Fatalf("%s = %d, %d", what, k, e)
		}
	}
	return l
}

// wrongNames: what no profile, and no root, can be called.
var wrongNames = []string{"", ".", ".a", "a/b", "a b", "ä", "a\x00", "/", "now/", strings.Repeat("n", api.MaxName+1), strings.Repeat("n", 100000)}

// rightNames: what they can be called.
var rightNames = []string{"p", "now", "profiles", "1", "-", "a.b", "+-_?=.", strings.Repeat("n", api.MaxName)}

func TestP19_1_Name(t *testing.T) {
	for _, s := range rightNames {
		if !profile.Name(s) {
			t.Errorf("%q is no name", s)
		}
	}
	for _, s := range wrongNames {
		if profile.Name(s) {
			t.Errorf("%q is a name", s)
		}
	}
}

func TestP19_1_Example(t *testing.T) {
	_, b := bare(t, 100)
	sets(t, b, "p", aPath, 1)
	sets(t, b, "p", bPath, 2)
	n, e := profile.Back(b, "p")
	numbered(t, "Back", n, e, 1, api.OK)
	sets(t, b, "p", cPath, 3)
	n, e = profile.Old(b, "p")
	numbered(t, "Old", n, e, 2, api.OK)
	lists(t, b, "p", 3, "3 "+cPath)
}

// TestP19_1_InTree: where the generations stand, and that they stay.
func TestP19_1_InTree(t *testing.T) {
	d, b := bare(t, 100)
	for i, name := range rightNames {
		sets(t, b, name, aPath, 1)
		if i%2 == 0 {
			sets(t, b, name, cPath, 2)
		}
	}
	for range 2 {
		for i, name := range rightNames {
			want := dir("1", link(aPath), "now", link("1"))
			if i%2 == 0 {
				want = dir("1", link(aPath), "2", link(cPath), "now", link("2"))
			}
			standsAt(t, b, "profiles/"+name, want)
		}
		b = falls(t, d)
	}
	if x, _ := b.FS().At("profiles"); len(x.Names) != len(rightNames) {
		t.Errorf("there are %d profiles", len(x.Names))
	}
}

func TestP19_1_Numbers(t *testing.T) {
	d, b := bare(t, 200)
	var all []string
	for i := range 12 {
		path := []string{aPath, bPath, cPath}[i%3]
		sets(t, b, "p", path, i+1)
		all = append(all, strconv.Itoa(i+1)+" "+path)
		lists(t, b, "p", i+1, all...)
	}
	// The number behind the greatest that there is, be the one that counts less, and be there gaps.
	is(t, "Switch", profile.Switch(b, "p", 2), api.OK)
	is(t, "Drop", profile.Drop(b, "p", 7), api.OK)
	is(t, "Drop", profile.Drop(b, "p", 1), api.OK)
	all = slices.Concat(all[1:6], all[7:])
	lists(t, b, "p", 2, all...)
	sets(t, b, "p", bPath, 13)
	all = append(all, "13 "+bPath)
	lists(t, b, "p", 13, all...)
	// One that is gone is free again, if it was the greatest.
	is(t, "Switch", profile.Switch(b, "p", 10), api.OK)
	is(t, "Drop", profile.Drop(b, "p", 13), api.OK)
	sets(t, b, "p", aPath, 13)
	all[len(all)-1] = "13 " + aPath
	for range 2 {
		lists(t, b, "p", 13, all...)
		b = falls(t, d)
	}
	// The same path once more is a generation more, and each profile has its own numbers.
	sets(t, b, "p", aPath, 14)
	sets(t, b, "q", aPath, 1)
	sets(t, b, "q", aPath, 2)
	lists(t, b, "p", 14, append(all, "14 "+aPath)...)
	lists(t, b, "q", 2, "1 "+aPath, "2 "+aPath)
}

func TestP19_1_SwitchAndBack(t *testing.T) {
	d, b := bare(t, 100)
	for i := range 4 {
		sets(t, b, "p", aPath, i+1)
	}
	all := []string{"1 " + aPath, "2 " + aPath, "3 " + aPath, "4 " + aPath}
	for _, n := range []int{1, 4, 4, 2, 3} {
		is(t, "Switch", profile.Switch(b, "p", n), api.OK)
		lists(t, b, "p", n, all...)
		lists(t, falls(t, d), "p", n, all...)
		b = falls(t, d)
	}
	for _, n := range []int{0, -1, 5, 10, 33, math.MaxInt, math.MinInt} {
		stays(t, b, func() {
			is(t, "Switch", profile.Switch(b, "p", n), api.ErrName)
			is(t, "Drop", profile.Drop(b, "p", n), api.ErrName)
		})
	}
	// The one ahead of it may be gone; then the one ahead of that.
	is(t, "Drop", profile.Drop(b, "p", 2), api.OK)
	n, e := profile.Back(b, "p")
	numbered(t, "Back", n, e, 1, api.OK)
	lists(t, b, "p", 1, all[0], all[2], all[3])
	stays(t, b, func() {
		n, e := profile.Back(b, "p")
		numbered(t, "Back", n, e, 0, api.ErrName)
	})
	is(t, "Switch", profile.Switch(b, "p", 4), api.OK)
	n, e = profile.Back(b, "p")
	numbered(t, "Back", n, e, 3, api.OK)
	lists(t, falls(t, d), "p", 3, all[0], all[2], all[3])
}

// TestP19_1_BackOverTen: the greatest is that by number, and not by its digits.
func TestP19_1_BackOverTen(t *testing.T) {
	_, b := bare(t, 200)
	for i := range 11 {
		sets(t, b, "p", aPath, i+1)
	}
	for want := 10; want > 0; want-- {
		n, e := profile.Back(b, "p")
		numbered(t, "Back", n, e, want, api.OK)
	}
	n, e := profile.Back(b, "p")
	numbered(t, "Back", n, e, 0, api.ErrName)
}

func TestP19_1_DropAndOld(t *testing.T) {
	d, b := bare(t, 100)
	for i := range 4 {
		sets(t, b, "p", aPath, i+1)
	}
	sets(t, b, "q", bPath, 1)
	stays(t, b, func() { is(t, "Drop", profile.Drop(b, "p", 4), api.ErrBusy) })
	is(t, "Switch", profile.Switch(b, "p", 2), api.OK)
	stays(t, b, func() { is(t, "Drop", profile.Drop(b, "p", 2), api.ErrBusy) })
	is(t, "Drop", profile.Drop(b, "p", 4), api.OK)
	stays(t, b, func() { is(t, "Drop", profile.Drop(b, "p", 4), api.ErrName) })
	lists(t, b, "p", 2, "1 "+aPath, "2 "+aPath, "3 "+aPath)
	// Those behind the one that counts go, too.
	n, e := profile.Old(b, "p")
	numbered(t, "Old", n, e, 2, api.OK)
	for range 2 {
		lists(t, b, "p", 2, "2 "+aPath)
		lists(t, b, "q", 1, "1 "+bPath)
		b = falls(t, d)
	}
	stays(t, b, func() {
		n, e = profile.Old(b, "p")
		numbered(t, "Old", n, e, 0, api.OK)
	})
	sets(t, b, "p", bPath, 3)
	lists(t, b, "p", 3, "2 "+aPath, "3 "+bPath)
}

// TestP19_1_Wrong: each error, and which goes first.
func TestP19_1_Wrong(t *testing.T) {
	d, b := bare(t, 100)
	sets(t, b, "p", aPath, 1)
	unset := func(b *valid.DB, name, path string, want api.Errno) {
		t.Helper()
		n, e := profile.Set(b, name, path)
		numbered(t, "Set", n, e, 0, want)
	}
	for range 2 {
		stays(t, b, func() {
			for _, name := range append(wrongNames, "p") {
				unset(nil, name, none, api.ErrNone)
				for what, e := range calls(t, nil, name, 7) {
					is(t, what+" of nil", e, api.ErrNone)
				}
			}
			for _, name := range wrongNames {
				unset(b, name, none, api.ErrText)
				unset(b, name, aPath, api.ErrText)
				for what, e := range calls(t, b, name, 7) {
					is(t, what+" of no name", e, api.ErrText)
				}
			}
			for _, path := range []string{none, "", "a", aPath[1:], aPath + "/", "store/" + aPath, samples.Path("a", "b"), strings.Repeat("x", 100000)} {
				unset(b, "p", path, api.ErrName)
				unset(b, "q", path, api.ErrName)
			}
			for what, e := range calls(t, b, "q", 7) {
				is(t, what+" of none", e, api.ErrNone)
			}
			is(t, "Drop", profile.Drop(b, "p", 1), api.ErrBusy)
			n, e := profile.Back(b, "p")
			numbered(t, "Back", n, e, 0, api.ErrName)
		})
		is(t, "Off", samples.Off(d), api.ErrCrash) // what is wrong goes ahead of that
	}
	sets(t, falls(t, d), "q", aPath, 1)
}

// TestP19_1_Off: the power is off.
func TestP19_1_Off(t *testing.T) {
	d, b := bare(t, 100)
	for i := range 3 {
		sets(t, b, "p", aPath, i+1)
	}
	is(t, "Switch", profile.Switch(b, "p", 2), api.OK)
	is(t, "Off", samples.Off(d), api.ErrCrash)
	for range 2 {
		stays(t, b, func() {
			n, e := profile.Set(b, "p", aPath)
			numbered(t, "Set", n, e, 0, api.ErrCrash)
			n, e = profile.Set(b, "q", aPath)
			numbered(t, "Set", n, e, 0, api.ErrCrash)
			is(t, "Root", profile.Root(b, "r", aPath), api.ErrCrash)
			for what, e := range calls(t, b, "p", 3) {
				if what != "List" {
					is(t, what, e, api.ErrCrash)
				}
			}
			lists(t, b, "p", 2, "1 "+aPath, "2 "+aPath, "3 "+aPath)
		})
		is(t, "Restart", d.Restart(nil, -1, 0), api.OK) // it was off, and that is enough
	}
}

// TestP19_1_Full: there is no room for one more.
func TestP19_1_Full(t *testing.T) {
	d, b := bare(t, 36)
	n := 0
	for {
		k, e := profile.Set(b, "p", aPath)
		if e == api.ErrFull {
			numbered(t, "Set", k, e, 0, api.ErrFull)
			break
		}
		n++
		numbered(t, "Set", k, e, n, api.OK)
	}
	if n < 5 {
		t.Fatalf("there is room for %d", n)
	}
	stays(t, b, func() {
		k, e := profile.Set(b, "p", bPath)
		numbered(t, "Set", k, e, 0, api.ErrFull)
		is(t, "Root", profile.Root(b, strings.Repeat("r", 40), aPath), api.ErrFull)
	})
	// What goes leaves its room.
	k, e := profile.Old(b, "p")
	numbered(t, "Old", k, e, n-1, api.OK)
	b = falls(t, d)
	lists(t, b, "p", n, strconv.Itoa(n)+" "+aPath)
	for i := range n - 2 {
		sets(t, b, "p", aPath, n+i+1)
	}
}

// TestP19_1_Strangers: what others have put there is passed over, where it is no generation.
func TestP19_1_Strangers(t *testing.T) {
	_, b := bare(t, 200)
	puts := func(path string, x api.Tree) {
		t.Helper()
		is(t, "Apply", b.Apply([]api.Edit{{Kind: api.OPut, Path: path, Tree: x}}), api.OK)
	}
	puts("profiles", dir(
		"f", file(aPath),
		"l", link(aPath),
		"none", dir(),
		"p", dir("-1", link(aPath), "0", link(aPath), "01", link(aPath), "2", link(aPath), "3", file(aPath), "4", dir(), "5", link("x"), "99999999999999999999", link(aPath), "now", link("2"), "x", link(aPath)),
		"q", dir("1", link(aPath), "now", link("7")),
		"r", dir("1", link(none), "2", link(bPath), "now", file("1")),
	))
	for _, name := range []string{"f", "l"} {
		for what, e := range calls(t, b, name, 1) {
			is(t, what, e, api.ErrNone)
		}
		n, e := profile.Set(b, name, aPath)
		numbered(t, "Set", n, e, 0, api.ErrKind)
	}
	lists(t, b, "none", 0)
	lists(t, b, "p", 2, "2 "+aPath)
	lists(t, b, "q", 0, "1 "+aPath)
	lists(t, b, "r", 0, "1 "+none, "2 "+bPath)
	for _, name := range []string{"none", "q", "r"} {
		n, e := profile.Back(b, name)
		numbered(t, "Back", n, e, 0, api.ErrName)
	}
	sets(t, b, "none", aPath, 1)
	sets(t, b, "p", bPath, 3)
	lists(t, b, "p", 3, "2 "+aPath, "3 "+bPath)
	sets(t, b, "q", aPath, 2)
	sets(t, b, "r", aPath, 3)
	lists(t, b, "r", 3, "1 "+none, "2 "+bPath, "3 "+aPath)
	// Behind the greatest number that there is comes none.
	most := strconv.Itoa(math.MaxInt)
	puts("profiles/p/"+most, link(aPath))
	is(t, "Switch", profile.Switch(b, "p", math.MaxInt), api.OK)
	stays(t, b, func() {
		n, e := profile.Set(b, "p", aPath)
		numbered(t, "Set", n, e, 0, api.ErrRange)
	})
	n, e := profile.Back(b, "p")
	numbered(t, "Back", n, e, 3, api.OK)
	puts("profiles", file("x"))
	n, e = profile.Set(b, "p", aPath)
	numbered(t, "Set", n, e, 0, api.ErrKind)
}

// TestP1_ZeroDB: of a zero object nothing is promised, but that no call panics.
func TestP1_ZeroDB(t *testing.T) {
	for _, b := range []*valid.DB{nil, {}} {
		profile.Set(b, "p", aPath)
		calls(t, b, "p", 1)
		profile.Root(b, "p", aPath)
		profile.Root(b, "p", "")
		if l := profile.Roots(b); len(l) > 0 {
			t.Errorf("Roots = %v", l)
		}
	}
}

// TestP2_AnswersAreNew: an answer is new memory, its spare room too.
func TestP2_AnswersAreNew(t *testing.T) {
	_, b := bare(t, 100)
	for i := range 3 {
		sets(t, b, "p", aPath, i+1)
	}
	is(t, "Root", profile.Root(b, "r", bPath), api.OK)
	for range 2 {
		l, _, _ := profile.List(b, "p")
		clear(l[:cap(l)])
		roots := profile.Roots(b)
		clear(roots[:cap(roots)])
		lists(t, b, "p", 3, "1 "+aPath, "2 "+aPath, "3 "+aPath)
		rooted(t, b, aPath, bPath)
	}
}
