package profile_test

import (
	"slices"
	"strings"
	"testing"

	"staddle/api"
	"staddle/profile"
	"staddle/samples"
	"staddle/valid"
)

// rooted fails where other paths are kept.
func rooted(t *testing.T, b *valid.DB, want ...string) {
	t.Helper()
	if l := profile.Roots(b); !slices.Equal(l, want) {
		t.Fatalf("Roots = %v, and not %v", l, want)
	}
}

func TestP19_2_Root(t *testing.T) {
	d, b := bare(t, 100)
	rooted(t, b)
	is(t, "Root", profile.Root(b, "r", aPath), api.OK)
	rooted(t, b, aPath)
	standsAt(t, b, "roots", dir("r", link(aPath)))
	// Another path in its place.
	is(t, "Root", profile.Root(b, "r", bPath), api.OK)
	rooted(t, b, bPath)
	is(t, "Root", profile.Root(b, "q", bPath), api.OK)
	for range 2 {
		rooted(t, b, bPath)
		standsAt(t, b, "roots", dir("q", link(bPath), "r", link(bPath)))
		b = falls(t, d)
	}
	stays(t, b, func() { is(t, "Root", profile.Root(b, "r", bPath), api.OK) })
	is(t, "Root", profile.Root(b, "r", ""), api.OK)
	rooted(t, b, bPath)
	stays(t, b, func() { is(t, "Root", profile.Root(b, "r", ""), api.ErrNone) })
	is(t, "Root", profile.Root(b, "q", ""), api.OK)
	for range 2 {
		rooted(t, b)
		is(t, "Root", profile.Root(b, "q", ""), api.ErrNone)
		b = falls(t, d)
	}
	for _, name := range rightNames {
		is(t, "Root", profile.Root(b, name, cPath), api.OK)
		standsAt(t, b, "roots/"+name, link(cPath))
	}
	rooted(t, b, cPath)
}

func TestP19_2_Roots(t *testing.T) {
	d, b := bare(t, 100)
	is(t, "Root", profile.Root(b, "z", aPath), api.OK)
	sets(t, b, "p", bPath, 1)
	rooted(t, b, aPath, bPath)
	// Each once, and the least first: its first sign is 0.
	sets(t, b, "p", cPath, 2)
	sets(t, b, "p", aPath, 3)
	sets(t, b, "q", aPath, 1)
	sets(t, b, "q", cPath, 2)
	is(t, "Root", profile.Root(b, "a", cPath), api.OK)
	for range 2 {
		rooted(t, b, cPath, aPath, bPath)
		b = falls(t, d)
	}
	// A generation keeps its path whether it counts or not, till it is gone.
	is(t, "Switch", profile.Switch(b, "p", 1), api.OK)
	rooted(t, b, cPath, aPath, bPath)
	is(t, "Switch", profile.Switch(b, "p", 3), api.OK)
	is(t, "Drop", profile.Drop(b, "p", 1), api.OK)
	rooted(t, b, cPath, aPath)
	is(t, "Root", profile.Root(b, "a", ""), api.OK)
	n, e := profile.Old(b, "p")
	numbered(t, "Old", n, e, 1, api.OK)
	rooted(t, b, cPath, aPath)
	n, e = profile.Back(b, "q")
	numbered(t, "Back", n, e, 1, api.OK)
	n, e = profile.Old(b, "q")
	numbered(t, "Old", n, e, 1, api.OK)
	rooted(t, b, aPath)
	// Also a path that is valid no more.
	is(t, "Remove", b.Remove(aPath), api.OK)
	rooted(t, falls(t, d), aPath)
}

func TestP19_2_Wrong(t *testing.T) {
	d, b := bare(t, 100)
	is(t, "Root", profile.Root(b, "r", aPath), api.OK)
	for range 2 {
		stays(t, b, func() {
			for _, name := range append(wrongNames, "r", "q") {
				for _, path := range []string{"", aPath, none} {
					is(t, "Root of nil", profile.Root(nil, name, path), api.ErrNone)
				}
			}
			for _, name := range wrongNames {
				for _, path := range []string{"", aPath, none} {
					is(t, "Root of no name", profile.Root(b, name, path), api.ErrText)
				}
			}
			for _, path := range []string{none, "x", " ", aPath[1:], aPath + "/", samples.Path("a", "b"), strings.Repeat("x", 100000)} {
				is(t, "Root", profile.Root(b, "r", path), api.ErrName)
				is(t, "Root", profile.Root(b, "q", path), api.ErrName)
			}
			is(t, "Root", profile.Root(b, "q", ""), api.ErrNone)
		})
		is(t, "Off", samples.Off(d), api.ErrCrash) // what is wrong goes ahead of that
	}
	stays(t, b, func() {
		is(t, "Root", profile.Root(b, "r", bPath), api.ErrCrash)
		is(t, "Root", profile.Root(b, "r", ""), api.ErrCrash)
		is(t, "Root", profile.Root(b, "q", bPath), api.ErrCrash)
	})
	rooted(t, b, aPath)
	rooted(t, falls(t, d), aPath)
	if l := profile.Roots(nil); len(l) > 0 {
		t.Errorf("Roots = %v", l)
	}
}

// TestP19_2_Strangers: what others have put there keeps nothing, where it is no root and no generation.
func TestP19_2_Strangers(t *testing.T) {
	_, b := bare(t, 200)
	is(t, "Apply", b.Apply([]api.Edit{
		{Kind: api.OPut, Path: "roots", Tree: dir(".h", link(aPath), "d", dir("x", link(aPath)), "f", file(aPath), "l", link("x"), "r", link(none))},
		{Kind: api.OPut, Path: "profiles", Tree: dir(".h", dir("1", link(aPath)), "l", link(aPath), "p", dir("0", link(aPath), "1", file(aPath), "2", link("x"), "3", link(bPath), "now", link("9")))},
	}), api.OK)
	rooted(t, b, bPath, none)
	for _, name := range []string{"d", "f", "l"} {
		is(t, "Root", profile.Root(b, name, ""), api.ErrNone)
		is(t, "Root", profile.Root(b, name, cPath), api.OK)
		is(t, "Root", profile.Root(b, name, ""), api.OK)
	}
	is(t, "Root", profile.Root(b, "r", ""), api.OK)
	rooted(t, b, bPath)
	is(t, "Apply", b.Apply([]api.Edit{{Kind: api.OPut, Path: "roots", Tree: file("x")}, {Kind: api.OPut, Path: "profiles", Tree: link(aPath)}}), api.OK)
	rooted(t, b)
	is(t, "Root", profile.Root(b, "r", ""), api.ErrNone)
	is(t, "Root", profile.Root(b, "r", aPath), api.ErrKind)
}
