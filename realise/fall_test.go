package realise_test

import (
	"strings"
	"testing"

	"staddle/api"
	"staddle/drv"
	"staddle/realise"
	"staddle/samples"
	"staddle/sector"
	"staddle/tree"
	"staddle/valid"
)

// scene is a store on a device, and a call that takes some steps.
type scene struct {
	sectors int
	rounds  int // how often a path comes and goes ahead of it
	steps   int
	call    func(*valid.DB) (int, api.Errno) // how many steps were done
}

// row: derivations of which each needs the one ahead of it.
func row(t *testing.T) []api.Drv {
	t.Helper()
	var l []api.Drv
	for i, name := range []string{"one", "two", "three", "four"} {
		d := made(name, "write f \""+strings.Repeat("x", 60*i)+"\"\nlink l @out@")
		if i > 0 {
			path, e := drv.Path(l[i-1])
			is(t, "Path", e, api.OK)
			d.Drvs = []string{path}
		}
		l = append(l, d)
	}
	return l
}

// step: one step, whether it was done or not.
func step(e api.Errno) (int, api.Errno) {
	if e != api.OK {
		return 0, e
	}
	return 1, e
}

// scenes: calls that take one operation or many, with room for a record left and without.
func scenes(t *testing.T) []scene {
	t.Helper()
	l := row(t)
	last, _ := drv.Path(l[len(l)-1])
	second, _ := drv.Path(l[1])
	more := made("more", "write f x", last)
	big := dir("f", file(strings.Repeat("f", 300)), "g", link("f"))
	calls := []struct {
		steps int
		call  func(*valid.DB) (int, api.Errno)
	}{
		{1, func(b *valid.DB) (int, api.Errno) {
			_, e := realise.Add(b, more)
			return step(e)
		}},
		{1, func(b *valid.DB) (int, api.Errno) {
			_, e := realise.AddTree(b, "big", big)
			return step(e)
		}},
		{2, func(b *valid.DB) (int, api.Errno) {
			_, n, e := realise.Realise(b, second)
			return n, e
		}},
		{4, func(b *valid.DB) (int, api.Errno) {
			_, n, e := realise.Realise(b, last)
			return n, e
		}},
	}
	var all []scene
	for _, sectors := range []int{78, 90, 120} {
		for rounds := range 3 {
			for _, x := range calls {
				all = append(all, scene{sectors, rounds, x.steps, x.call})
			}
		}
	}
	return all
}

// set: a scene's device, and its paths.
func (s scene) set(t *testing.T) (*sector.Device, *valid.DB) {
	t.Helper()
	d, b := fresh(t, s.sectors)
	for _, x := range row(t) {
		adds(t, b, x)
	}
	for range s.rounds {
		is(t, "Remove", b.Remove(addsTree(t, b, "round", file(strings.Repeat("c", 200)))), api.OK)
	}
	return d, b
}

// states: the tree behind none of a scene's steps, behind the first, and so on; it is taken that each derivation can be done by itself.
func (s scene) states(t *testing.T) []api.Tree {
	t.Helper()
	_, b := s.set(t)
	l := []api.Tree{b.FS().Tree()}
	if s.steps > 1 {
		for _, x := range row(t)[:s.steps] {
			path, _ := drv.Path(x)
			realises(t, b, path, 1)
			l = append(l, b.FS().Tree())
		}
		return l
	}
	n, e := s.call(b)
	if n != 1 || e != api.OK {
		t.Fatalf("a call of one step = %d, %d", n, e)
	}
	return append(l, b.FS().Tree())
}

// TestP3_AllFalls: wherever the power goes off in a call, and whatever is done then of what was on its way, its first steps are done, each whole, and it can be gone on with.
func TestP3_AllFalls(t *testing.T) {
	met := map[string]int{}
	for _, s := range scenes(t) {
		states := s.states(t)
		for n := 1; ; n++ {
			d, b := s.set(t)
			is(t, "Arm", d.Arm(n), api.OK)
			done, e := s.call(b)
			if e == api.OK {
				is(t, "Arm", d.Arm(0), api.OK)
				if done != s.steps || !tree.Same(falls(t, d).FS().Tree(), states[s.steps]) {
					t.Fatalf("%d steps are done of %d", done, s.steps)
				}
				break
			}
			// Not all of them in each operation: of the tree itself package fsys holds them all.
			for k, x := range samples.Falls(d.Way()) {
				if (k+n)%31 == 0 {
					met[s.cut(t, states, n, x)]++
				}
			}
		}
	}
	if met["done"] < 50 || met["not done"] < 50 {
		t.Errorf("only %v were met", met)
	}
}

// cut: a scene's call is cut at its n-th operation, and then the power goes on; is the step done that was cut?
func (s scene) cut(t *testing.T, states []api.Tree, n int, x samples.Fall) string {
	t.Helper()
	d, b := s.set(t)
	is(t, "Arm", d.Arm(n), api.OK)
	done, e := s.call(b)
	is(t, "what was cut", e, api.ErrCrash)
	is(t, "Restart", d.Restart(x.Keep, x.Torn, x.Cut), api.OK)
	// What met the fall does nothing any more.
	for range 2 {
		if !tree.Same(b.FS().Tree(), states[done]) {
			t.Fatalf("%d steps were done, and something else is told", done)
		}
		if more, e := s.call(b); more != 0 || e != api.ErrCrash {
			t.Fatalf("behind a fall the call = %d, %d", more, e)
		}
	}
	b, e = samples.Stored(d)
	is(t, "Stored", e, api.OK)
	what := "not done"
	if !tree.Same(b.FS().Tree(), states[done]) {
		done, what = done+1, "done"
	}
	b = falls(t, d)
	if done >= len(states) || !tree.Same(b.FS().Tree(), states[done]) {
		t.Fatalf("behind the fall stand other paths: %v", b.List())
	}
	if l := b.Verify(); len(l) > 0 {
		t.Fatalf("Verify = %v", l)
	}
	more, e := s.call(b)
	is(t, "the call, again", e, api.OK)
	if s.steps > 1 && more != s.steps-done {
		t.Fatalf("%d steps were left, and %d are done", s.steps-done, more)
	}
	if !tree.Same(falls(t, d).FS().Tree(), states[s.steps]) {
		t.Fatal("in the end stand other paths")
	}
	return what
}

// TestP7_RoomComesBack: any number of paths come and go, and what has gone leaves its room.
func TestP7_RoomComesBack(t *testing.T) {
	d, b := fresh(t, 40)
	empty := b.FS().Tree()
	for i := range 100 {
		src := addsTree(t, b, "src", file(strings.Repeat(string(rune('a'+i%26)), 300)))
		x := made("x", "copy "+src+` "" f`, src)
		path := adds(t, b, x)
		out := realises(t, b, path, 1)
		if i%7 == 0 {
			b = falls(t, d)
		}
		failsTree(t, b, "more", file(strings.Repeat("x", 3000)), api.ErrFull)
		has(t, b, out, dir("f", file(strings.Repeat(string(rune('a'+i%26)), 300))), path)
		for _, path := range []string{out, path, src} {
			is(t, "Remove", b.Remove(path), api.OK)
		}
		if !tree.Same(b.FS().Tree(), empty) {
			t.Fatal("something is left")
		}
	}
}
