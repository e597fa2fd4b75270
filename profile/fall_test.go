package profile_test

import (
	"strings"
	"testing"

	"staddle/api"
	"staddle/profile"
	"staddle/samples"
	"staddle/sector"
	"staddle/tree"
	"staddle/valid"
)

// scene is a store on a device, and a call.
type scene struct {
	sectors int
	rounds  int // how often a generation comes and goes ahead of it
	call    func(*valid.DB) api.Errno
}

// scenes: calls that take one operation or many, with room for a record left and without.
func scenes() []scene {
	calls := []func(*valid.DB) api.Errno{
		func(b *valid.DB) api.Errno { _, e := profile.Set(b, "p", cPath); return e },
		func(b *valid.DB) api.Errno { _, e := profile.Set(b, strings.Repeat("q", 40), cPath); return e },
		func(b *valid.DB) api.Errno { return profile.Switch(b, "p", 1) },
		func(b *valid.DB) api.Errno { _, e := profile.Back(b, "p"); return e },
		func(b *valid.DB) api.Errno { return profile.Drop(b, "p", 1) },
		func(b *valid.DB) api.Errno { _, e := profile.Old(b, "p"); return e },
		func(b *valid.DB) api.Errno { return profile.Root(b, "r", aPath) },
		func(b *valid.DB) api.Errno { return profile.Root(b, "r", "") },
		func(b *valid.DB) api.Errno { return profile.Root(b, "s", bPath) },
	}
	var l []scene
	for _, sectors := range []int{40, 44, 60} {
		for rounds := range 3 {
			for _, call := range calls {
				l = append(l, scene{sectors, rounds, call})
			}
		}
	}
	return l
}

// set: a scene's device, and its paths.
func (s scene) set(t *testing.T) (*sector.Device, *valid.DB) {
	t.Helper()
	d, b := bare(t, s.sectors)
	is(t, "Root", profile.Root(b, "r", cPath), api.OK)
	for i, path := range []string{aPath, bPath, aPath} {
		sets(t, b, "p", path, i+1)
	}
	for range s.rounds {
		sets(t, b, "p", cPath, 4)
		is(t, "Switch", profile.Switch(b, "p", 3), api.OK)
		is(t, "Drop", profile.Drop(b, "p", 4), api.OK)
	}
	return d, b
}

// TestP3_AllFalls: wherever the power goes off in a call, and whatever is done then of what was on its way, it is done, or not, whole, and all goes on.
func TestP3_AllFalls(t *testing.T) {
	met := map[string]int{}
	for _, s := range scenes() {
		for n := 1; ; n++ {
			d, b := s.set(t)
			was := b.FS().Tree()
			is(t, "Arm", d.Arm(n), api.OK)
			if e := s.call(b); e == api.OK {
				is(t, "Arm", d.Arm(0), api.OK)
				if now := b.FS().Tree(); tree.Same(now, was) || !tree.Same(falls(t, d).FS().Tree(), now) {
					t.Fatal("it isn't done, or not durable")
				}
				break
			}
			// Not all of them in each operation: of the tree itself package fsys holds them all.
			for k, x := range samples.Falls(d.Way()) {
				if (k+n)%23 == 0 {
					met[s.cut(t, n, x)]++
				}
			}
		}
	}
	if met["done"] < 50 || met["not done"] < 50 {
		t.Errorf("only %v were met", met)
	}
}

// cut: a scene's call is cut at its n-th operation, and then the power goes on; is it done?
func (s scene) cut(t *testing.T, n int, x samples.Fall) string {
	t.Helper()
	d, b := s.set(t)
	was := b.FS().Tree()
	is(t, "Arm", d.Arm(n), api.OK)
	is(t, "what was cut", s.call(b), api.ErrCrash)
	is(t, "Restart", d.Restart(x.Keep, x.Torn, x.Cut), api.OK)
	// What met the fall does nothing any more.
	if !tree.Same(b.FS().Tree(), was) {
		t.Fatal("what was cut is told to be done")
	}
	is(t, "behind a fall the call", s.call(b), api.ErrCrash)
	b, e := samples.Stored(d)
	is(t, "Stored", e, api.OK)
	_, whole := s.set(t)
	is(t, "the call, in whole", s.call(whole), api.OK)
	want, what := whole.FS().Tree(), "done"
	if tree.Same(b.FS().Tree(), was) {
		want, what = was, "not done"
	}
	for range 2 {
		if !tree.Same(b.FS().Tree(), want) {
			t.Fatalf("behind the fall stands %q", tree.Paths(b.FS().Tree()))
		}
		b = falls(t, d)
	}
	if what == "not done" {
		is(t, "the call, again", s.call(b), api.OK)
		if !tree.Same(falls(t, d).FS().Tree(), whole.FS().Tree()) {
			t.Fatal("in the end stands something else")
		}
	}
	return what
}

// TestP7_RoomComesBack: any number of generations and roots come and go, and what has gone leaves its room.
func TestP7_RoomComesBack(t *testing.T) {
	d, b := bare(t, 34)
	sets(t, b, "p", aPath, 1)
	is(t, "Root", profile.Root(b, "r", aPath), api.OK)
	is(t, "Root", profile.Root(b, "r", ""), api.OK)
	n := 1
	for i := range 200 {
		sets(t, b, "p", []string{aPath, bPath, cPath}[i%3], n+1)
		sets(t, b, "p", aPath, n+2)
		is(t, "Root", profile.Root(b, strings.Repeat("r", 1+i%40), bPath), api.OK)
		if i%7 == 0 {
			b = falls(t, d)
		}
		k, e := profile.Back(b, "p")
		numbered(t, "Back", k, e, n+1, api.OK)
		k, e = profile.Old(b, "p")
		numbered(t, "Old", k, e, 2, api.OK)
		is(t, "Root", profile.Root(b, strings.Repeat("r", 1+i%40), ""), api.OK)
		rooted(t, b, []string{aPath, bPath, cPath}[i%3])
		n++
	}
}
