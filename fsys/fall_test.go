package fsys_test

import (
	"strconv"
	"strings"
	"testing"

	"staddle/api"
	"staddle/edit"
	"staddle/fsys"
	"staddle/samples"
	"staddle/sector"
	"staddle/tree"
)

// scene is a tree on a device, what is done to it ahead, and a call that may be cut.
type scene struct {
	sectors int
	ahead   [][]api.Edit
	l       []api.Edit
	format  bool // the call is a Format, and not Do of l
}

// scenes: Dos that find room behind the records and such that don't, of few and of many edits, and Formats.
func scenes() []scene {
	big := file(strings.Repeat("big", 60))
	calls := [][]api.Edit{
		nil,
		{mkdir("n")},
		{put("f", tool("y"))},
		{drop("f")},
		{move("g", "f"), put("f", link("g")), mkdir("h"), put("h/i", file("i"))},
		{put("f", big), put("h", big), drop("h"), move("h", "f")},
	}
	var l []scene
	for _, sectors := range []int{12, 16} {
		ahead := [][]api.Edit{{put("f", file("x"))}}
		for range 5 {
			for _, call := range calls {
				l = append(l, scene{sectors, ahead, call, false})
			}
			l = append(l, scene{sectors, ahead, nil, true})
			ahead = append(ahead, []api.Edit{put("f", file("x"+strconv.Itoa(len(ahead))))})
		}
	}
	return l
}

// set: a scene's device, its tree, and what that has.
func (s scene) set(t *testing.T) (*sector.Device, *fsys.FS, api.Tree) {
	t.Helper()
	d, f := fresh(t, s.sectors)
	for _, l := range s.ahead {
		does(t, f, l...)
	}
	return d, f, f.Tree()
}

// now: what a scene's call makes of a tree.
func (s scene) now(t *testing.T, was api.Tree) api.Tree {
	t.Helper()
	if s.format {
		return dir()
	}
	x, e := edit.Apply(was, s.l)
	is(t, "edit.Apply", e, api.OK)
	return x
}

// cut does a scene's call; false: the power goes off in the n-th operation of it.
func (s scene) cut(t *testing.T, d *sector.Device, f *fsys.FS, n int) bool {
	t.Helper()
	is(t, "Arm", d.Arm(n), api.OK)
	var e api.Errno
	if s.format {
		e = fsys.Format(d)
	} else {
		e = f.Do(s.l)
	}
	if e == api.OK {
		is(t, "Arm", d.Arm(0), api.OK)
		return true
	}
	is(t, "what was cut", e, api.ErrCrash)
	if f.On() {
		t.Fatal("the power is off, and it may be used")
	}
	return false
}

// restarts: the tree that stands on a device when the power is on again; that which met the fall does nothing any more.
func restarts(t *testing.T, d *sector.Device, f *fsys.FS, x samples.Fall) *fsys.FS {
	t.Helper()
	is(t, "Restart", d.Restart(x.Keep, x.Torn, x.Cut), api.OK)
	ops := d.Ops()
	is(t, "Do behind a fall", f.Do([]api.Edit{mkdir("behind")}), api.ErrCrash)
	if f.On() || d.Ops() != ops {
		t.Fatal("it may be used, or has done something")
	}
	return opened(t, d)
}

// either fails where there is neither of two trees; the one that there is.
func either(t *testing.T, f *fsys.FS, was, now api.Tree) api.Tree {
	t.Helper()
	got := f.Tree()
	if !tree.Same(got, was) && !tree.Same(got, now) {
		t.Fatalf("there is %q, and neither %q nor %q", tree.Paths(got), tree.Paths(was), tree.Paths(now))
	}
	return got
}

// goesOn fails where what there is isn't durable, or can't be used like any other tree.
func goesOn(t *testing.T, d *sector.Device, want api.Tree) {
	t.Helper()
	f := falls(t, d)
	holds(t, f, want)
	for k := range 4 {
		l := []api.Edit{put("k", file(strings.Repeat("k", 9*k)))}
		does(t, f, l...)
		now, e := edit.Apply(want, l)
		is(t, "edit.Apply", e, api.OK)
		want = now
		f = falls(t, d)
		holds(t, f, want)
	}
}

// TestP3_AllFalls: wherever the power goes off in a Do or a Format, and whatever is done then of what was on its way, it is done, or not, whole, and all goes on.
func TestP3_AllFalls(t *testing.T) {
	met := map[string]int{}
	for _, s := range scenes() {
		for n := 1; ; n++ {
			d, f, was := s.set(t)
			now := s.now(t, was)
			if s.cut(t, d, f, n) {
				goesOn(t, d, now)
				break
			}
			for _, x := range samples.Falls(d.Way()) {
				d, f, _ := s.set(t)
				s.cut(t, d, f, n)
				either(t, f, was, now)
				f = restarts(t, d, f, x)
				got := either(t, f, was, now)
				if tree.Same(got, was) {
					met["not done"]++
				} else {
					met["done"]++
				}
				goesOn(t, d, got)
			}
		}
	}
	if met["done"] < 100 || met["not done"] < 100 {
		t.Errorf("only %v were met", met)
	}
}

// TestP16_1_FormatCut: a Format of a device without a tree may be cut, and is done again.
func TestP16_1_FormatCut(t *testing.T) {
	for n := 1; ; n++ {
		started := func() (*sector.Device, api.Errno) {
			d := made(t, 6)
			is(t, "Arm", d.Arm(n), api.OK)
			return d, fsys.Format(d)
		}
		d, e := started()
		if e == api.OK {
			break
		}
		for _, x := range samples.Falls(d.Way()) {
			d, _ := started()
			is(t, "Restart", d.Restart(x.Keep, x.Torn, x.Cut), api.OK)
			if f, e := fsys.Open(d); e == api.OK {
				holds(t, f, dir())
			} else {
				is(t, "Open", e, api.ErrSum)
			}
			is(t, "Format", fsys.Format(d), api.OK)
			goesOn(t, d, dir())
		}
	}
}

// TestP3_FallUponFall: behind a fall the next Do is cut, too, at each of its operations; then it is done.
func TestP3_FallUponFall(t *testing.T) {
	second := []api.Edit{put("s", file(strings.Repeat("s", 30))), mkdir("second")}
	for _, s := range scenes() {
		for n := 1; ; n++ {
			d, f, was := s.set(t)
			if s.cut(t, d, f, n) {
				break
			}
			way := samples.Falls(d.Way())
			for k := 0; k < len(way); k += 3 {
				for m := 1; ; m++ {
					d, f, _ := s.set(t)
					s.cut(t, d, f, n)
					f = restarts(t, d, f, way[k])
					got := either(t, f, was, s.now(t, was))
					next := scene{l: second}
					now := next.now(t, got)
					if next.cut(t, d, f, m) {
						holds(t, f, now)
						holds(t, falls(t, d), now)
						break
					}
					again := samples.Falls(d.Way())
					f = restarts(t, d, f, again[(n*5+m*3+k)%len(again)])
					either(t, f, got, now)
					does(t, f, second[:1]...)
				}
			}
		}
	}
}
