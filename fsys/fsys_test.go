package fsys_test

import (
	"slices"
	"strings"
	"testing"

	"staddle/api"
	"staddle/edit"
	"staddle/fsys"
	"staddle/journal"
	"staddle/nar"
	"staddle/samples"
	"staddle/sector"
	"staddle/tree"
)

var file, tool, link, dir = samples.File, samples.Tool, samples.Link, samples.Dir

func mkdir(path string) api.Edit           { return api.Edit{Kind: api.OMkdir, Path: path} }
func put(path string, t api.Tree) api.Edit { return api.Edit{Kind: api.OPut, Path: path, Tree: t} }
func move(path, from string) api.Edit      { return api.Edit{Kind: api.OMove, Path: path, From: from} }
func drop(path string) api.Edit            { return api.Edit{Kind: api.ODrop, Path: path} }

// is fails where a call answers another error.
func is(t *testing.T, what string, e, want api.Errno) {
	t.Helper()
	if e != want {
		t.Fatalf("%s = %d, and not %d", what, e, want)
	}
}

// made: a device.
func made(t *testing.T, n int) *sector.Device {
	t.Helper()
	d, e := sector.New(n)
	is(t, "sector.New", e, api.OK)
	return d
}

// opened: the tree of a device.
func opened(t *testing.T, d *sector.Device) *fsys.FS {
	t.Helper()
	f, e := fsys.Open(d)
	is(t, "Open", e, api.OK)
	if f == nil {
		t.Fatal("Open = nil")
	}
	return f
}

// fresh: a device with an empty directory, and that.
func fresh(t *testing.T, n int) (*sector.Device, *fsys.FS) {
	t.Helper()
	d := made(t, n)
	is(t, "Format", fsys.Format(d), api.OK)
	return d, opened(t, d)
}

// refuses fails where a device can be opened, or there is another error.
func refuses(t *testing.T, d *sector.Device, want api.Errno) {
	t.Helper()
	if f, e := fsys.Open(d); f != nil || e != want {
		t.Fatalf("Open = %v, %d, and not %d", f, e, want)
	}
}

// does fails where some edits can't be done.
func does(t *testing.T, f *fsys.FS, l ...api.Edit) {
	t.Helper()
	is(t, "Do", f.Do(l), api.OK)
}

// holds fails where a tree isn't the one that is asked for.
func holds(t *testing.T, f *fsys.FS, want api.Tree) {
	t.Helper()
	if got := f.Tree(); !tree.Same(got, want) {
		t.Fatalf("there is %.90q, and not %.90q", tree.Paths(got), tree.Paths(want))
	}
}

// falls lets the power go off and on, and all that is on its way is lost; the tree that stands on the device then.
func falls(t *testing.T, d *sector.Device) *fsys.FS {
	t.Helper()
	is(t, "Restart", d.Restart(nil, -1, 0), api.OK)
	return opened(t, d)
}

// off lets the power go off.
func off(t *testing.T, d *sector.Device) {
	t.Helper()
	is(t, "Arm", d.Arm(1), api.OK)
	is(t, "Sync", d.Sync(), api.ErrCrash)
}

// size: how many bytes a tree's archive has.
func size(t *testing.T, x api.Tree) int {
	t.Helper()
	_, n, e := nar.Sum(x)
	is(t, "nar.Sum", e, api.OK)
	return n
}

// filler: a file with which a directory that has it alone, as f, takes n bytes, which eight divides.
func filler(t *testing.T, n int) api.Tree {
	t.Helper()
	return file(strings.Repeat("x", n-size(t, dir("f", file("")))))
}

// TestP16_1_Example is the document's.
func TestP16_1_Example(t *testing.T) {
	d, f := fresh(t, 20)
	does(t, f, mkdir("a"), put("a/f", file("x")))
	off(t, d)
	f = falls(t, d)
	holds(t, f, dir("a", dir("f", file("x"))))
}

func TestP16_1_Format(t *testing.T) {
	for _, n := range []int{6, 7, 8, 9, 50, 51, api.MaxSectors - 1, api.MaxSectors} {
		d := made(t, n)
		is(t, "Format", fsys.Format(d), api.OK)
		for range 3 {
			f := falls(t, d)
			holds(t, f, dir())
			if f.Room() != (n-2)/2*api.Sector-32 || !f.On() {
				t.Errorf("Room, On = %d, %v of %d sectors", f.Room(), f.On(), n)
			}
		}
	}
}

func TestP16_1_FormatWrong(t *testing.T) {
	is(t, "Format(nil)", fsys.Format(nil), api.ErrNone)
	for n := 1; n < 6; n++ {
		d := made(t, n)
		is(t, "Format of too few sectors", fsys.Format(d), api.ErrArg)
		off(t, d)
		is(t, "Format of too few sectors, off", fsys.Format(d), api.ErrArg)
	}
	d := made(t, 6)
	off(t, d)
	is(t, "Format, off", fsys.Format(d), api.ErrCrash)
	is(t, "Restart", d.Restart(nil, -1, 0), api.OK)
	refuses(t, d, api.ErrSum)
	is(t, "Format", fsys.Format(d), api.OK)
	holds(t, opened(t, d), dir())
}

// TestP16_1_FormatAgain: of what was there nothing stays, and it takes no room.
func TestP16_1_FormatAgain(t *testing.T) {
	d, f := fresh(t, 9)
	for k := range 12 {
		for i := range k {
			does(t, f, put("f", filler(t, 400+8*i)))
		}
		is(t, "Format", fsys.Format(d), api.OK)
		f = falls(t, d)
		holds(t, f, dir())
		full := dir("f", filler(t, f.Room()))
		does(t, f, put("f", full.Kids[0]))
		f = falls(t, d)
		holds(t, f, full)
	}
	// Over any bytes, too.
	dice := samples.Dice(1)
	for range 20 {
		d := made(t, 6+dice.Roll(9))
		for i := range d.Len() {
			is(t, "Write", d.Write(i, dice.Bytes(api.Sector)), api.OK)
		}
		is(t, "Format", fsys.Format(d), api.OK)
		holds(t, falls(t, d), dir())
	}
}

func TestP16_1_OpenWrong(t *testing.T) {
	refuses(t, nil, api.ErrNone)
	for n := 1; n < 6; n++ {
		d := made(t, n)
		refuses(t, d, api.ErrArg)
		off(t, d)
		refuses(t, d, api.ErrArg)
	}
	for _, n := range []int{6, 7, 100, api.MaxSectors} {
		d := made(t, n)
		refuses(t, d, api.ErrSum)
		off(t, d)
		refuses(t, d, api.ErrCrash)
		is(t, "Restart", d.Restart(nil, -1, 0), api.OK)
		refuses(t, d, api.ErrSum)
	}
	d, f := fresh(t, 6)
	does(t, f, mkdir("a"))
	off(t, d)
	refuses(t, d, api.ErrCrash)
	holds(t, falls(t, d), dir("a", dir()))
}

// TestP16_1_OpenOthers: a journal that was written by another tells no tree.
func TestP16_1_OpenOthers(t *testing.T) {
	archive, _ := nar.Write(dir("a", file("x")))
	record := func(l ...api.Edit) []byte {
		p, e := edit.Encode(l)
		is(t, "edit.Encode", e, api.OK)
		return p
	}
	for _, x := range []struct {
		base    []byte
		records [][]byte
		want    api.Errno
	}{
		{nil, nil, api.OK},
		{archive, [][]byte{nil, record(mkdir("b")), nil}, api.OK},
		{[]byte("x"), nil, api.ErrSum},
		{archive[:len(archive)-8], nil, api.ErrSum},
		{append(slices.Clone(archive), 0), nil, api.ErrSum},
		{archive, [][]byte{[]byte("x")}, api.ErrSum},
		{archive, [][]byte{record(mkdir("b")), record(mkdir("b"))}, api.ErrSum},
		{archive, [][]byte{record(mkdir("b"), drop("c"))}, api.ErrSum},
		{archive, [][]byte{append(record(mkdir("b")), 0)}, api.ErrSum},
		{nil, [][]byte{record(drop("a"))}, api.ErrSum},
	} {
		d := made(t, 20)
		is(t, "journal.Format", journal.Format(d), api.OK)
		j, e := journal.Open(d)
		is(t, "journal.Open", e, api.OK)
		is(t, "Reset", j.Reset(x.base), api.OK)
		for _, p := range x.records {
			is(t, "Append", j.Append(p), api.OK)
		}
		if x.want == api.OK {
			opened(t, d)
		} else {
			refuses(t, d, x.want)
		}
	}
}

// TestP16_1_OpenCut: with a journal that has no room left, wherever the power goes off in Open, it may be tried again.
func TestP16_1_OpenCut(t *testing.T) {
	d, f := fresh(t, 7)
	want := dir("f", filler(t, f.Room()-8))
	does(t, f, put("f", want.Kids[0]))
	for n := 0; n < 40; n++ {
		is(t, "Restart", d.Restart([]bool{n%2 == 0}, n%3-1, n), api.OK)
		is(t, "Arm", d.Arm(1+n%4), api.OK)
		f, e := fsys.Open(d)
		if e != api.OK {
			is(t, "Open", e, api.ErrCrash)
			continue
		}
		holds(t, f, want)
	}
	f = falls(t, d)
	holds(t, f, want)
	want = dir("f", filler(t, f.Room()))
	does(t, f, put("f", want.Kids[0]))
	holds(t, falls(t, d), want)
}

func TestP16_2_Do(t *testing.T) {
	d, f := fresh(t, 40)
	want := dir()
	for k, l := range [][]api.Edit{
		nil,
		{mkdir("a")},
		{put("a/f", file("x")), mkdir("a/g"), move("a/g/h", "a/f")},
		{},
		{put("b", link("a/g/h")), put("c", tool("\x00\xff"))},
		{drop("c"), put("c", dir("x", dir("y", file("")), "z", link("z"))), move("d", "c/x")},
		{mkdir("e"), drop("e")},
		{put("big", file(strings.Repeat("big", 600)))},
		{move("a/big", "big"), move("a/big", "a/big")},
		{drop("a"), drop("b"), drop("d")},
		{drop("c")},
	} {
		does(t, f, l...)
		now, e := edit.Apply(want, l)
		is(t, "edit.Apply", e, api.OK)
		want = now
		holds(t, f, want)
		if k%2 == 0 {
			f = falls(t, d)
			holds(t, f, want)
		}
	}
}

// TestP16_2_Wrong: edit.Apply's error, and behind it that of an edit that isn't right; nothing has changed then.
func TestP16_2_Wrong(t *testing.T) {
	d, f := fresh(t, 12)
	want := dir("a", dir("b", file("x")), "c", link("a"))
	does(t, f, put("a", want.Kids[0]), put("c", want.Kids[1]))
	from, with := mkdir("n"), mkdir("n")
	from.From, with.Tree = "a", file("x")
	putFrom, dropFrom, dropWith, moveWith := put("n", file("")), drop("a"), drop("a"), move("n", "a")
	putFrom.From, dropFrom.From, dropWith.Tree, moveWith.Tree = "a", "x", dir(), file("")
	other := mkdir("m")
	other.From = "a"
	toItself := move("a", "a")
	toItself.Tree = dir()
	big := put("n", file(strings.Repeat("x", 5000)))
	for _, x := range []struct {
		l    []api.Edit
		want api.Errno
	}{
		{[]api.Edit{{}}, api.ErrArg},
		{[]api.Edit{mkdir("")}, api.ErrArg},
		{[]api.Edit{mkdir("x/")}, api.ErrText},
		{[]api.Edit{mkdir(strings.Repeat("x", 401))}, api.ErrLong},
		{[]api.Edit{{Path: "n"}}, api.ErrForm},
		{[]api.Edit{{Kind: 5, Path: "n"}}, api.ErrForm},
		{[]api.Edit{mkdir("n"), mkdir("n")}, api.ErrExists},
		{[]api.Edit{mkdir("n"), drop("x")}, api.ErrNone},
		{[]api.Edit{mkdir("n"), mkdir("c/x")}, api.ErrKind},
		{[]api.Edit{mkdir("n"), move("a/b/c", "a")}, api.ErrLoop},
		{[]api.Edit{put("n", api.Tree{})}, api.ErrForm},
		{[]api.Edit{put("n", samples.Deep(16, file("")))}, api.ErrLong},
		{[]api.Edit{put("n", samples.Wide(api.MaxNodes-1))}, api.ErrLong},
		{[]api.Edit{from}, api.ErrForm},
		{[]api.Edit{with}, api.ErrForm},
		{[]api.Edit{putFrom}, api.ErrForm},
		{[]api.Edit{dropFrom}, api.ErrForm},
		{[]api.Edit{dropWith}, api.ErrForm},
		{[]api.Edit{moveWith}, api.ErrForm},
		{[]api.Edit{toItself}, api.ErrForm},
		// Of several errors the first one of P16.2.
		{[]api.Edit{from, mkdir("n")}, api.ErrExists},
		{[]api.Edit{big, other, drop("x")}, api.ErrNone},
		{[]api.Edit{big, drop("x")}, api.ErrNone},
		{[]api.Edit{big, other, big}, api.ErrForm},
		{[]api.Edit{big, putFrom, big}, api.ErrForm},
		{[]api.Edit{big}, api.ErrFull},
	} {
		for range 2 {
			is(t, "Do", f.Do(x.l), x.want)
			holds(t, f, want)
			if !f.On() {
				t.Fatal("it may not be used any more")
			}
		}
	}
	off(t, d)
	for _, l := range [][]api.Edit{nil, {mkdir("n")}, {{}}, {from}, {big}, {mkdir("")}} {
		is(t, "Do, off", f.Do(l), api.ErrCrash)
	}
	holds(t, falls(t, d), want)
}

// TestP16_2_Full: the archive may have all of the room, whatever the journal has taken, and not a byte more.
func TestP16_2_Full(t *testing.T) {
	for _, n := range []int{6, 7, 8, 9, 30, 100} {
		d, f := fresh(t, n)
		room := f.Room()
		for k := range 40 {
			full := dir("f", filler(t, room))
			is(t, "Do of too much", f.Do([]api.Edit{put("f", filler(t, room+8))}), api.ErrFull)
			is(t, "Do of too much", f.Do([]api.Edit{put("f", filler(t, room)), mkdir("g")}), api.ErrFull)
			does(t, f, put("f", full.Kids[0]))
			holds(t, f, full)
			is(t, "Do of too much", f.Do([]api.Edit{mkdir("g")}), api.ErrFull)
			holds(t, f, full)
			does(t, f)
			f = falls(t, d)
			holds(t, f, full)
			// What goes leaves its room.
			does(t, f, drop("f"))
			holds(t, f, dir())
			for range k % 9 {
				does(t, f, mkdir("a"), drop("a"))
			}
		}
	}
}

// TestP16_2_FullByTheTreeAlone: what the edits have doesn't count, only what they make.
func TestP16_2_FullByTheTreeAlone(t *testing.T) {
	d, f := fresh(t, 8)
	for range 5 {
		does(t, f, put("f", file(strings.Repeat("x", 50000))), drop("f"), mkdir("a"))
		var l []api.Edit
		for range 500 {
			l = append(l, move("b", "a"), move("a", "b"))
		}
		does(t, f, l...)
		holds(t, f, dir("a", dir()))
		f = falls(t, d)
		holds(t, f, dir("a", dir()))
		does(t, f, drop("a"))
	}
}

// TestP16_2_NeverWorn: on a small device there is room for any number of Dos.
func TestP16_2_NeverWorn(t *testing.T) {
	d, f := fresh(t, 6)
	for k := range 3000 {
		x := file(strings.Repeat("x", k%200))
		does(t, f, put("f", x))
		if k%97 == 0 {
			f = falls(t, d)
		}
		holds(t, f, dir("f", x))
	}
}

// TestP16_2_Limits: the greatest trees have room on the greatest device, but those whose names are long.
func TestP16_2_Limits(t *testing.T) {
	d, f := fresh(t, api.MaxSectors)
	for _, x := range []api.Tree{samples.Wide(api.MaxNodes - 2), file(strings.Repeat("x", api.MaxData)), samples.Deep(api.MaxDepth-1, file("x"))} {
		does(t, f, put("t", x))
		f = falls(t, d)
		holds(t, f, dir("t", x))
	}
	for _, x := range []api.Tree{samples.Wide(api.MaxNodes - 1), samples.Deep(api.MaxDepth, file("x")), dir("a", file(strings.Repeat("x", api.MaxData)))} {
		is(t, "Do beyond a limit", f.Do([]api.Edit{put("t", x), put("u", file("u"))}), api.ErrLong)
	}
	long := samples.Wide(api.MaxNodes - 2)
	for i, name := range long.Names {
		long.Names[i] = name + strings.Repeat("n", api.MaxEntry-len(name))
	}
	for f.Room() < size(t, dir("t", long)) {
		is(t, "Do of names that are long", f.Do([]api.Edit{put("t", long)}), api.ErrFull)
		long.Names, long.Kids = long.Names[1:], long.Kids[1:]
	}
	does(t, f, put("t", long))
	holds(t, falls(t, d), dir("t", long))
}

// TestP16_2_Crash: behind a fall nothing can be done any more, whoever sees it and when.
func TestP16_2_Crash(t *testing.T) {
	was := dir("a", file("x"))
	dead := func(d *sector.Device, f *fsys.FS) {
		t.Helper()
		for range 3 {
			ops := d.Ops()
			is(t, "Do", f.Do([]api.Edit{mkdir("b")}), api.ErrCrash)
			is(t, "Do", f.Do(nil), api.ErrCrash)
			is(t, "Do", f.Do([]api.Edit{{}}), api.ErrCrash)
			if f.On() || d.Ops() != ops {
				t.Fatal("it may be used, or has done something")
			}
			holds(t, f, was)
			is(t, "Restart", d.Restart(nil, -1, 0), api.OK)
		}
		f = opened(t, d)
		holds(t, f, was)
		does(t, f, drop("a"), put("a", file("x")))
		holds(t, falls(t, d), was)
	}
	for name, fall := range map[string]func(d *sector.Device, f *fsys.FS){
		"off":                   func(d *sector.Device, _ *fsys.FS) { off(t, d) },
		"off, seen, and on":     func(d *sector.Device, f *fsys.FS) { off(t, d); f.On(); d.Restart(nil, -1, 0) },
		"on again":              func(d *sector.Device, _ *fsys.FS) { d.Restart(nil, -1, 0) },
		"on again, all kept":    func(d *sector.Device, _ *fsys.FS) { d.Restart(slices.Repeat([]bool{true}, 9), -1, 0) },
		"on again, torn":        func(d *sector.Device, _ *fsys.FS) { d.Restart(nil, 0, 5) },
		"on again, armed":       func(d *sector.Device, _ *fsys.FS) { d.Restart(nil, -1, 0); d.Arm(1000) },
		"on again, twice":       func(d *sector.Device, _ *fsys.FS) { d.Restart(nil, -1, 0); d.Restart(nil, -1, 0) },
		"on again, and written": func(d *sector.Device, _ *fsys.FS) { d.Restart(nil, -1, 0); rewrite(t, d) },
		"written, and off":      func(d *sector.Device, _ *fsys.FS) { rewrite(t, d); d.Arm(1); d.Sync() },
		"in a Do": func(d *sector.Device, f *fsys.FS) {
			d.Arm(1)
			is(t, "Do", f.Do([]api.Edit{mkdir("n")}), api.ErrCrash)
			d.Restart(nil, -1, 0)
		},
		"behind a refused Do":    func(d *sector.Device, f *fsys.FS) { f.Do([]api.Edit{{}}); d.Restart(nil, -1, 0) },
		"behind a Do that waits": func(d *sector.Device, f *fsys.FS) { does(t, f); d.Restart(nil, -1, 0) },
	} {
		t.Log(name)
		d, f := fresh(t, 12)
		does(t, f, put("a", file("x")))
		fall(d, f)
		dead(d, f)
		// And of one that was only opened.
		f = opened(t, d)
		fall(d, f)
		dead(d, f)
	}
}

// rewrite: a sector has the bytes that it has.
func rewrite(t *testing.T, d *sector.Device) {
	t.Helper()
	p, e := d.Read(3)
	is(t, "Read", e, api.OK)
	is(t, "Write", d.Write(3, p), api.OK)
}

// TestP16_2_NoCrash: while the power is on it may be used, whatever else is done with the device.
func TestP16_2_NoCrash(t *testing.T) {
	d, f := fresh(t, 30)
	want := dir("a", file("x"))
	for name, event := range map[string]func(){
		"nothing":                  func() {},
		"armed":                    func() { d.Arm(1000) },
		"armed, and not":           func() { d.Arm(1); d.Arm(0) },
		"synced":                   func() { d.Sync() },
		"written":                  func() { rewrite(t, d) },
		"written twice":            func() { rewrite(t, d); rewrite(t, d) },
		"written, synced":          func() { rewrite(t, d); d.Sync() },
		"synced, written":          func() { d.Sync(); rewrite(t, d) },
		"synced, written, written": func() { d.Sync(); rewrite(t, d); rewrite(t, d) },
		"read":                     func() { d.Read(0); d.Way(); d.Ops(); d.On() },
		"refused":                  func() { d.Write(-1, nil); d.Write(0, nil); f.Do([]api.Edit{{}}) },
		"told":                     func() { f.Tree(); f.At("a"); f.Room(); f.On() },
	} {
		t.Log(name)
		for range 3 {
			event()
			if !f.On() {
				t.Fatal("it may not be used")
			}
			does(t, f, put("a", file("x")))
			event()
			does(t, f, mkdir("b"), drop("b"))
			holds(t, f, want)
		}
	}
	holds(t, falls(t, d), want)
}

func TestP16_3_At(t *testing.T) {
	_, f := fresh(t, 30)
	want := dir("a", dir("b", file("text"), "c", dir("d", link("../b"), "e", dir())), "ab", tool("run"), "z", dir("\xff", file("\x00\x01")))
	for i, name := range want.Names {
		does(t, f, put(name, want.Kids[i]))
	}
	for _, path := range append(tree.Paths(want), "", "a/x", "x", "x/y", "ab/x", "a/c/d/x", "/", "a/", "..", "a//b", "\x00", "aa", strings.Repeat("x", 80), strings.Repeat("x", 81), strings.Repeat("x/", 199)+"xx", strings.Repeat("x/", 200)+"x") {
		got, e := f.At(path)
		x, want := tree.At(want, path)
		if e != want || !tree.Same(got, x) {
			t.Errorf("At(%.20q) = %v, %d, and not %v, %d", path, got, e, x, want)
		}
	}
}

func TestP16_3_Told(t *testing.T) {
	for n := 6; n < 30; n++ {
		d, f := fresh(t, n)
		check := func(on bool) {
			t.Helper()
			if f.Room() != journal.Half(n)*api.Sector-journal.Head || f.On() != on {
				t.Fatalf("Room, On = %d, %v of %d sectors", f.Room(), f.On(), n)
			}
		}
		check(true)
		does(t, f, mkdir("a"))
		check(true)
		off(t, d)
		check(false)
		// What it tells without the device it tells on.
		holds(t, f, dir("a", dir()))
		if x, e := f.At("a"); e != api.OK || x.Kind != api.Dir {
			t.Fatalf("At, off = %d", e)
		}
		f = falls(t, d)
		check(true)
	}
}

func TestP16_3_Nil(t *testing.T) {
	var f *fsys.FS
	for _, l := range [][]api.Edit{nil, {mkdir("a")}, {{}}} {
		is(t, "Do", f.Do(l), api.ErrNone)
	}
	for _, path := range []string{"", "a", "/", strings.Repeat("x", 500)} {
		if x, e := f.At(path); e != api.ErrNone || !tree.Same(x, api.Tree{}) {
			t.Errorf("At(%.9q) = %v, %d", path, x, e)
		}
	}
	if !tree.Same(f.Tree(), api.Tree{}) || f.Room() != 0 || f.On() {
		t.Error("a nil tree tells something")
	}
}

// TestP1_ZeroFSEnds: nothing is promised of it but that no call panics.
func TestP1_ZeroFSEnds(t *testing.T) {
	var f fsys.FS
	f.Do(nil)
	f.Do([]api.Edit{mkdir("a")})
	f.Tree()
	f.At("")
	f.Room()
	f.On()
}

// TestP1_AnyEditEnds: what is no tree and what is no edit is refused, however deep or wide it is.
func TestP1_AnyEditEnds(t *testing.T) {
	d, f := fresh(t, 20)
	does(t, f, put("a", file("x")))
	for name, x := range samples.Wrong() {
		if e := f.Do([]api.Edit{put("n", x)}); e != api.ErrForm && e != api.ErrLong {
			t.Errorf("%s: Do = %d", name, e)
		}
	}
	deep := samples.Deep(200000, file(""))
	for kind := range 256 {
		x := api.Edit{Kind: byte(kind), Path: "n", From: "a", Tree: deep}
		if e := f.Do([]api.Edit{x}); e != api.ErrForm && (e != api.ErrNone || kind != int(api.ODrop)) {
			t.Errorf("of what is far too deep: Do = %d, of the kind %d", e, kind)
		}
	}
	holds(t, f, dir("a", file("x")))
	holds(t, falls(t, d), dir("a", file("x")))
}

// TestP1_AnyDeviceEnds: whatever stands on a device, Open ends, and answers a tree or that there is none.
func TestP1_AnyDeviceEnds(t *testing.T) {
	d, f := fresh(t, 14)
	does(t, f, put("a", dir("b", file(strings.Repeat("x", 100)))))
	does(t, f, mkdir("c"), put("d", link("a/b")))
	var good [][]byte
	for i := range d.Len() {
		p, e := d.Read(i)
		is(t, "Read", e, api.OK)
		good = append(good, p)
	}
	dice := samples.Dice(3)
	for range 4000 {
		d := made(t, len(good))
		for i, p := range good {
			is(t, "Write", d.Write(i, p), api.OK)
		}
		for range 1 + dice.Roll(3) {
			i := dice.Roll(len(good))
			p := slices.Clone(good[dice.Roll(len(good))])
			if dice.Roll(2) == 0 {
				p = slices.Clone(good[i])
				p[dice.Roll(len(p))] = byte(dice.Roll(256))
			}
			is(t, "Write", d.Write(i, p), api.OK)
		}
		f, e := fsys.Open(d)
		if e != api.OK {
			is(t, "Open", e, api.ErrSum)
			continue
		}
		if !tree.Form(f.Tree()) {
			t.Fatal("it is no tree")
		}
		does(t, f, put("e", file("")))
	}
}

func TestP2_WhatIsHandedInStays(t *testing.T) {
	d, f := fresh(t, 30)
	x := dir("b", dir("c", file("text"), "d", link("c")), "e", tool("run"))
	want := dir("a", x, "z", x)
	l := append(make([]api.Edit, 0, 4), put("a", samples.Roomy(x)), put("z", samples.Roomy(x)))
	copy(l[:4][2:], []api.Edit{mkdir("spare"), mkdir("room")})
	does(t, f, l...)
	if !samples.Intact(l[0].Tree, x) || !samples.Intact(l[1].Tree, x) || l[:4][2].Path != "spare" || l[:4][3].Path != "room" {
		t.Fatal("what was handed in has changed, or its spare room")
	}
	// It may be written over.
	samples.Spoil(l[0].Tree)
	samples.Spoil(l[1].Tree)
	clear(l[:4])
	holds(t, f, want)
	does(t, f, mkdir("n"), drop("n"))
	holds(t, f, want)
	holds(t, falls(t, d), want)
}

func TestP2_AnswersAreNewMemory(t *testing.T) {
	d, f := fresh(t, 30)
	x := dir("b", dir("c", file("text"), "d", link("c")), "e", tool("run"))
	does(t, f, put("a", x), put("z", x))
	want := dir("a", x, "z", x)
	for range 2 {
		one, other := f.Tree(), f.Tree()
		at, e := f.At("a")
		is(t, "At", e, api.OK)
		samples.Spoil(one)
		if !tree.Same(other, want) || !tree.Same(at, x) {
			t.Fatal("two answers share memory")
		}
		samples.Spoil(at)
		holds(t, f, want)
		// What was told stays, whatever is done behind it.
		does(t, f, drop("z"), put("a/b/c", file("TEXT")))
		if !tree.Same(other, want) {
			t.Fatal("what was told has changed")
		}
		does(t, f, put("a", x), put("z", x))
		f = falls(t, d)
	}
}

// TestP2_Again: what is told again is answered again, and stands on the device again, whatever other trees there are.
func TestP2_Again(t *testing.T) {
	one, other := samples.Dice(6), samples.Dice(6)
	d, f := fresh(t, 14)
	c, g := fresh(t, 14)
	_, noise := fresh(t, 30)
	for range 300 {
		is(t, "Do", g.Do(anyEdits(&other)), f.Do(anyEdits(&one)))
		noise.Do([]api.Edit{put("n", file(strings.Repeat("n", d.Ops()%99)))})
		if !tree.Same(f.Tree(), g.Tree()) || d.Ops() != c.Ops() {
			t.Fatal("two trees that were told the same aren't the same")
		}
		for i := range d.Len() {
			p, _ := d.Read(i)
			q, _ := c.Read(i)
			if string(p) != string(q) {
				t.Fatalf("the sectors %d aren't the same", i)
			}
		}
	}
}
