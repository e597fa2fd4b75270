package valid_test

import (
	"strings"
	"testing"

	"staddle/api"
	"staddle/fsys"
	"staddle/samples"
	"staddle/sector"
	"staddle/tree"
	"staddle/valid"
)

// scene is paths on a device, and a call that changes these.
type scene struct {
	sectors int
	rounds  int // how often a path comes and goes ahead of it
	call    func(*valid.DB) api.Errno
	now     []thing // what is valid behind the call
}

// scenes: calls that take one operation or many, with room for a record left and without.
func scenes(t *testing.T, first []thing) []scene {
	t.Helper()
	x, y := first[0], first[1]
	z := made(t, cPath, dir("f", file(strings.Repeat("c", 300)), "g", link("f")), aPath)
	w := made(t, pathOf(4, "d"), tool("d"), cPath, pathOf(4, "d"))
	var l []scene
	for _, sectors := range []int{42, 56} {
		for rounds := range 3 {
			l = append(l,
				scene{sectors, rounds, func(b *valid.DB) api.Errno { return register(b, w, z) }, []thing{x, y, z, w}},
				scene{sectors, rounds, func(b *valid.DB) api.Errno { return register(b, y, z, x) }, []thing{x, y, z}},
				scene{sectors, rounds, func(b *valid.DB) api.Errno { return b.Remove(bPath) }, []thing{x}},
				scene{sectors, rounds, func(b *valid.DB) api.Errno { return b.Apply([]api.Edit{mkdir("n"), mkdir("n/m")}) }, []thing{x, y}},
			)
		}
	}
	return l
}

// set: a scene's device, and its paths.
func (s scene) set(t *testing.T, first []thing) (*sector.Device, *valid.DB) {
	t.Helper()
	d, b := fresh(t, s.sectors)
	registers(t, b, first...)
	for range s.rounds {
		registers(t, b, made(t, cPath, file(strings.Repeat("c", 200))))
		is(t, "Remove", b.Remove(cPath), api.OK)
	}
	return d, b
}

// TestP3_AllFalls: wherever the power goes off in a call, and whatever is done then of what was on its way, it is done, or not, whole, and all goes on.
func TestP3_AllFalls(t *testing.T) {
	first := []thing{made(t, aPath, file("a")), made(t, bPath, dir("x", link("y")), aPath, bPath)}
	met := map[string]int{}
	for _, s := range scenes(t, first) {
		for n := 1; ; n++ {
			d, b := s.set(t, first)
			is(t, "Arm", d.Arm(n), api.OK)
			if e := s.call(b); e == api.OK {
				is(t, "Arm", d.Arm(0), api.OK)
				holds(t, b, s.now...)
				holds(t, falls(t, d), s.now...)
				break
			}
			// Not all of them in each operation: of the tree itself package fsys holds them all.
			for k, x := range samples.Falls(d.Way()) {
				if (k+n)%7 == 0 {
					met[s.cut(t, first, n, x)]++
				}
			}
		}
	}
	if met["done"] < 50 || met["not done"] < 50 {
		t.Errorf("only %v were met", met)
	}
}

// cut: a scene's call is cut at its n-th operation, and then the power goes on; is it done?
func (s scene) cut(t *testing.T, first []thing, n int, x samples.Fall) string {
	t.Helper()
	d, b := s.set(t, first)
	was := b.FS().Tree()
	is(t, "Arm", d.Arm(n), api.OK)
	is(t, "what was cut", s.call(b), api.ErrCrash)
	is(t, "Restart", d.Restart(x.Keep, x.Torn, x.Cut), api.OK)
	// What met the fall does nothing any more.
	for range 2 {
		is(t, "Register behind a fall", register(b, made(t, pathOf(5, "e"), file("e"))), api.ErrCrash)
		is(t, "Apply behind a fall", b.Apply([]api.Edit{mkdir("m")}), api.ErrCrash)
	}
	b = opened(t, mounted(t, d))
	want, what := s.now, "done"
	if tree.Same(b.FS().Tree(), was) {
		want, what = first, "not done"
	}
	holds(t, b, want...)
	b = falls(t, d)
	holds(t, b, want...)
	e := made(t, pathOf(5, "e"), file("e"), aPath)
	registers(t, b, e)
	is(t, "Remove", b.Remove(e.Path), api.OK)
	holds(t, falls(t, d), want...)
	return what
}

// TestP3_OpenCut: wherever the power goes off in the first Open of a tree, it is tried again, and goes.
func TestP3_OpenCut(t *testing.T) {
	for n := 1; ; n++ {
		started := func() (*sector.Device, *fsys.FS, api.Errno) {
			d, f := formatted(t, 6)
			is(t, "Arm", d.Arm(n), api.OK)
			b, e := valid.Open(f)
			if e != api.OK && b != nil {
				t.Fatal("beside an error there is something")
			}
			return d, f, e
		}
		d, _, e := started()
		if e == api.OK {
			break
		}
		is(t, "Open, cut", e, api.ErrCrash)
		for _, x := range samples.Falls(d.Way()) {
			d, f, _ := started()
			is(t, "Restart", d.Restart(x.Keep, x.Torn, x.Cut), api.OK)
			if b, e := valid.Open(f); b != nil || e != api.ErrCrash {
				t.Fatalf("Open behind a fall = %v, %d", b, e)
			}
			f = mounted(t, d)
			if l := tree.Paths(f.Tree()); len(l) != 0 && len(l) != 2 {
				t.Fatalf("there is %q", l)
			}
			holds(t, opened(t, f))
			holds(t, falls(t, d))
		}
	}
}
