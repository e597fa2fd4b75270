package sweep_test

import (
	"slices"
	"strings"
	"testing"

	"staddle/api"
	"staddle/profile"
	"staddle/realise"
	"staddle/samples"
	"staddle/sector"
	"staddle/sweep"
	"staddle/tree"
	"staddle/valid"
)

func TestP20_2_Collect(t *testing.T) {
	d, b := fresh(t, 200)
	graph(t, b, "d", "c: d", "b: c", "a: b a", "g", "f: d g", "h: h")
	root(t, b, paths("c")[0])
	collects(t, b, sweep.Keep{Paths: paths("g")}, -1, paths("h f a b")...)
	b = falls(t, d)
	parts(t, b, sweep.Keep{}, "c d", "g")
	for range 2 {
		collects(t, b, sweep.Keep{Paths: paths("g")}, -1)
	}
	root(t, b, "")
	collects(t, b, sweep.Keep{}, -7, paths("g c d")...)
	b = falls(t, d)
	if l := b.List(); len(l) > 0 {
		t.Errorf("List = %v", l)
	}
	for _, limit := range []int{-1, 0, 1} {
		collects(t, b, sweep.Keep{}, limit)
	}
}

func TestP20_2_Limit(t *testing.T) {
	_, b := fresh(t, 200)
	names := []string{"c", "b: c", "a: b", "h"}
	fill := func() []string {
		graph(t, b, names...)
		return sweep.Dead(b, sweep.Keep{})
	}
	all := fill()
	if !slices.Equal(all, paths("h a b c")) {
		t.Fatalf("Dead = %v", all)
	}
	for n := range all {
		before, behind := size(t, b, all[:n]...), size(t, b, all[:n+1]...)
		// One goes more, as long as those that are gone have fewer than limit together.
		for _, limit := range []int{before + 1, before + 2, behind - 1, behind} {
			collects(t, b, sweep.Keep{}, limit, all[:n+1]...)
			fill()
		}
		collects(t, b, sweep.Keep{}, before, all[:n]...)
		fill()
	}
	collects(t, b, sweep.Keep{}, 0)
	for _, limit := range []int{size(t, b, all...) + 1, 1 << 62, -1, -1 << 63} {
		collects(t, b, sweep.Keep{}, limit, all...)
		fill()
	}
	// In steps all goes, too.
	for i, path := range all {
		collects(t, b, sweep.Keep{}, 1, path)
		if l := sweep.Dead(b, sweep.Keep{}); !slices.Equal(l, all[i+1:]) {
			t.Fatalf("Dead = %v", l)
		}
	}
}

// TestP20_2_Sizes: the bytes are those of the trees' archives.
func TestP20_2_Sizes(t *testing.T) {
	_, b := fresh(t, 200)
	x, y := samples.Path("1", "x"), samples.Path("0", "y")
	is(t, "Keep", samples.Keep(b, x, dir("f", file(strings.Repeat("x", 1000))), ""), api.OK)
	is(t, "Keep", samples.Keep(b, y, link("y"), ""), api.OK)
	big := size(t, b, x)
	if big < 1000 || size(t, b, y) > 200 {
		t.Fatalf("the sizes are %d and %d", big, size(t, b, y))
	}
	collects(t, b, sweep.Keep{}, 1000, x)
	collects(t, b, sweep.Keep{}, 1000, y)
}

// TestP20_2_Off: the error of Remove, and beside it what is gone.
func TestP20_2_Off(t *testing.T) {
	d, b := fresh(t, 100)
	graph(t, b, "b", "a: b", "c")
	root(t, b, paths("c")[0])
	is(t, "Off", samples.Off(d), api.ErrCrash)
	was := b.FS().Tree()
	for range 2 {
		for _, limit := range []int{-1, 1} {
			if l, n, e := sweep.Collect(b, sweep.Keep{}, limit); len(l) > 0 || n != 0 || e != api.ErrCrash {
				t.Fatalf("Collect = %v, %d, %d", l, n, e)
			}
		}
		// Where nothing must go there is no error.
		collects(t, b, sweep.Keep{}, 0)
		collects(t, b, sweep.Keep{Paths: paths("a")}, -1)
		parts(t, b, sweep.Keep{}, "c", "a b")
		is(t, "Restart", d.Restart(nil, -1, 0), api.OK) // it was off, and that is enough
	}
	if !tree.Same(falls(t, d).FS().Tree(), was) {
		t.Fatal("something has gone")
	}
}

// TestP20_2_Built: what is collected can be done again.
func TestP20_2_Built(t *testing.T) {
	d, b := fresh(t, 300)
	l := builds(t, b)
	_, e := profile.Set(b, "p", l.app)
	is(t, "Set", e, api.OK)
	dead := sweep.Dead(b, sweep.Keep{})
	if !slices.Equal(dead, []string{l.appOut, l.libOut}) {
		t.Fatalf("Dead = %v", dead)
	}
	collects(t, b, sweep.Keep{Drvs: true, Outs: true}, -1)
	collects(t, b, sweep.Keep{Drvs: true}, -1, dead...)
	b = falls(t, d)
	out, n, e := realise.Realise(b, l.app)
	if out != l.appOut || n != 2 || e != api.OK {
		t.Fatalf("Realise = %s, %d, %d", out, n, e)
	}
	// Its derivation goes, what it has made stays.
	_, e = profile.Set(b, "p", l.appOut)
	is(t, "Set", e, api.OK)
	n, e = profile.Old(b, "p")
	if n != 1 || e != api.OK {
		t.Fatalf("Old = %d, %d", n, e)
	}
	collects(t, b, sweep.Keep{Drvs: true}, -1)
	collects(t, b, sweep.Keep{Outs: true}, -1, l.app, l.lib, l.src)
	b = falls(t, d)
	kept(t, b, sweep.Keep{Drvs: true, Outs: true}, l.appOut, l.libOut)
}

// TestP7_RoomComesBack: what goes leaves its room, so that there is never less of it.
func TestP7_RoomComesBack(t *testing.T) {
	d, b := fresh(t, 60)
	kept := samples.Path("k", "k")
	keep(t, b, kept)
	root(t, b, kept)
	empty := b.FS().Tree()
	for i := range 60 {
		for _, name := range []string{"a", "b", "c", "d"} {
			_, e := realise.AddTree(b, name, file(strings.Repeat(string(rune('a'+i%26)), 300)))
			is(t, "AddTree", e, api.OK)
		}
		if _, e := realise.AddTree(b, "more", file(strings.Repeat("x", 3500))); e != api.ErrFull {
			t.Fatalf("AddTree = %d", e)
		}
		if i%5 == 0 {
			b = falls(t, d)
		}
		collects(t, b, sweep.Keep{}, -1, sweep.Dead(b, sweep.Keep{})...)
		if !tree.Same(b.FS().Tree(), empty) {
			t.Fatal("something is left")
		}
	}
}

// set: a device with paths of which some are dead, and these.
func set(t *testing.T, sectors, rounds int) (*sector.Device, *valid.DB) {
	t.Helper()
	d, b := fresh(t, sectors)
	graph(t, b, "d", "c: d", "b: c", "a: b", "g: d", "h: h")
	root(t, b, paths("g")[0])
	for range rounds {
		is(t, "Remove", b.Remove(keep(t, b, paths("z")[0])), api.OK)
	}
	return d, b
}

// TestP20_3_AllFalls: wherever the power goes off, and whatever is done then of what was on its way, some of the first of Dead are gone, each whole, and all else stays.
func TestP20_3_AllFalls(t *testing.T) {
	met := map[string]int{}
	for _, sectors := range []int{60, 70, 100} {
		for rounds := range 3 {
			for n := 1; ; n++ {
				d, b := set(t, sectors, rounds)
				is(t, "Arm", d.Arm(n), api.OK)
				if l, _, e := sweep.Collect(b, sweep.Keep{}, -1); e == api.OK && len(l) == 4 {
					break
				}
				// Not all of them in each operation: of the tree itself package fsys holds them all.
				for k, x := range samples.Falls(d.Way()) {
					if (k+n)%9 == 0 {
						d, b := set(t, sectors, rounds)
						met[cut(t, d, b, n, x)]++
					}
				}
			}
		}
	}
	if met["done"] < 50 || met["not done"] < 50 {
		t.Errorf("only %v were met", met)
	}
}

// cut: Collect is cut at its n-th operation, and then the power goes on; is the step done that was cut?
func cut(t *testing.T, d *sector.Device, b *valid.DB, n int, x samples.Fall) string {
	t.Helper()
	dead, all := paths("h a b c"), paths("a b c d g h")
	left := func(gone int) []string {
		return slices.DeleteFunc(slices.Clone(all), func(path string) bool { return slices.Contains(dead[:gone], path) })
	}
	sizes := []int{0}
	for i := range dead {
		sizes = append(sizes, size(t, b, dead[:i+1]...))
	}
	is(t, "Arm", d.Arm(n), api.OK)
	l, bytes, e := sweep.Collect(b, sweep.Keep{}, -1)
	gone := len(l)
	if e != api.ErrCrash || gone >= len(dead) || !slices.Equal(l, dead[:gone]) || bytes != sizes[gone] || !slices.Equal(b.List(), left(gone)) {
		t.Fatalf("what was cut = %v, %d, %d, and valid is %v", l, bytes, e, b.List())
	}
	is(t, "Restart", d.Restart(x.Keep, x.Torn, x.Cut), api.OK)
	// What met the fall does nothing any more.
	if l, n, e := sweep.Collect(b, sweep.Keep{}, -1); len(l) > 0 || n != 0 || e != api.ErrCrash {
		t.Fatalf("behind a fall Collect = %v, %d, %d", l, n, e)
	}
	b, e = samples.Stored(d)
	is(t, "Stored", e, api.OK)
	what := "not done"
	if slices.Equal(b.List(), left(gone+1)) {
		gone, what = gone+1, "done"
	}
	for range 2 {
		if l := b.List(); !slices.Equal(l, left(gone)) || len(b.Verify()) > 0 {
			t.Fatalf("behind the fall is valid %v", l)
		}
		b = falls(t, d)
	}
	collects(t, b, sweep.Keep{}, -1, dead[gone:]...)
	parts(t, falls(t, d), sweep.Keep{}, "d g", "")
	return what
}
