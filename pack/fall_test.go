package pack_test

import (
	"slices"
	"strings"
	"testing"

	"staddle/api"
	"staddle/pack"
	"staddle/samples"
	"staddle/sector"
	"staddle/valid"
)

// scene is a store on a device, and a pack that comes to it.
type scene struct {
	sectors int
	rounds  int // how often a path comes and goes ahead of it
	first   []thing
	comes   []thing
}

// scenes: packs that take one operation or many, with room for a record left and without.
func scenes(t *testing.T) []scene {
	t.Helper()
	x, y := made(t, aPath, file("a"), ""), made(t, bPath, dir("x", link("y")), dPath, aPath, bPath)
	z := made(t, cPath, dir("f", file(strings.Repeat("c", 300)), "g", link("f")), "", aPath, bPath)
	var l []scene
	for _, sectors := range []int{44, 60} {
		for rounds := range 3 {
			l = append(l,
				scene{sectors, rounds, nil, []thing{x, y, z}},
				scene{sectors, rounds, []thing{x}, []thing{x, y, z}},
				scene{sectors, rounds, []thing{x, y}, []thing{z, y}},
			)
		}
	}
	return l
}

// set: a scene's device, and its paths.
func (s scene) set(t *testing.T) (*sector.Device, *valid.DB) {
	t.Helper()
	d, b := fresh(t, s.sectors)
	registers(t, b, s.first...)
	for range s.rounds {
		registers(t, b, made(t, dPath, file(strings.Repeat("d", 200)), ""))
		is(t, "Remove", b.Remove(dPath), api.OK)
	}
	return d, b
}

// TestP3_AllFalls: wherever the power goes off in Import, and whatever is done then of what was on its way, all that comes is there, or nothing of it, and all goes on.
func TestP3_AllFalls(t *testing.T) {
	met := map[string]int{}
	for _, s := range scenes(t) {
		for n := 1; ; n++ {
			d, b := s.set(t)
			is(t, "Arm", d.Arm(n), api.OK)
			if _, e := pack.Import(b, packed(s.comes...)); e == api.OK {
				is(t, "Arm", d.Arm(0), api.OK)
				holds(t, b, s.all()...)
				holds(t, falls(t, d), s.all()...)
				break
			}
			// Not all of them in each operation: of the tree itself package fsys holds them all.
			for k, x := range samples.Falls(d.Way()) {
				if (k+n)%(2+d.Way()*d.Way()/4) == 0 {
					met[s.cut(t, n, x)]++
				}
			}
		}
	}
	if met["done"] < 50 || met["not done"] < 50 {
		t.Errorf("only %v were met", met)
	}
}

// all: what is valid in the end.
func (s scene) all() []thing {
	l := slices.Concat(s.first, s.comes)
	slices.SortFunc(l, func(x, y thing) int { return strings.Compare(x.Path, y.Path) })
	return slices.CompactFunc(l, func(x, y thing) bool { return x.Path == y.Path })
}

// cut: a scene's Import is cut at its n-th operation, and then the power goes on; is it done?
func (s scene) cut(t *testing.T, n int, x samples.Fall) string {
	t.Helper()
	d, b := s.set(t)
	p := packed(s.comes...)
	is(t, "Arm", d.Arm(n), api.OK)
	nothing(t, "what was cut", b, p, api.ErrCrash)
	is(t, "Restart", d.Restart(x.Keep, x.Torn, x.Cut), api.OK)
	nothing(t, "behind a fall", b, p, api.ErrCrash)
	b, e := samples.Stored(d)
	is(t, "Stored", e, api.OK)
	want, what := s.all(), "done"
	if len(b.List()) == len(s.first) {
		want, what = s.first, "not done"
	}
	for range 2 {
		holds(t, b, want...)
		b = falls(t, d)
	}
	imports(t, b, p, s.comes...)
	holds(t, falls(t, d), s.all()...)
	return what
}

// TestP7_RoomComesBack: what has come by packs leaves its room when it goes, however often that is.
func TestP7_RoomComesBack(t *testing.T) {
	x := made(t, aPath, file(strings.Repeat("a", 900)), "")
	y := made(t, bPath, dir("f", tool(strings.Repeat("b", 900))), "", aPath)
	d, b := fresh(t, 50)
	for i := range 100 {
		imports(t, b, packed(x, y), x, y)
		nothing(t, "more", b, packed(made(t, cPath, file(strings.Repeat("c", 3000)), "")), api.ErrFull)
		if i%7 == 0 {
			b = falls(t, d)
		}
		is(t, "Remove", b.Remove(bPath), api.OK)
		is(t, "Remove", b.Remove(aPath), api.OK)
		holds(t, b)
	}
}
