package pack_test

import (
	"bytes"
	"slices"
	"strings"
	"testing"

	"staddle/api"
	"staddle/pack"
	"staddle/profile"
	"staddle/realise"
	"staddle/samples"
	"staddle/sector"
	"staddle/sweep"
	"staddle/tree"
	"staddle/valid"
)

// fresh: a device on which no path is valid, and its paths.
func fresh(t *testing.T, sectors int) (*sector.Device, *valid.DB) {
	t.Helper()
	d, b, e := samples.Store(sectors)
	is(t, "Store", e, api.OK)
	return d, b
}

// falls lets the power go off and on, and all that is on its way is lost; the paths that stand on the device then.
func falls(t *testing.T, d *sector.Device) *valid.DB {
	t.Helper()
	b, e := samples.Fallen(d)
	is(t, "Fallen", e, api.OK)
	return b
}

// registers makes some things valid.
func registers(t *testing.T, b *valid.DB, l ...thing) {
	t.Helper()
	infos, trees := both(l)
	is(t, "Register", b.Register(infos, trees), api.OK)
}

// paths: those of some things, in their order.
func paths(l ...thing) []string {
	var all []string
	for _, x := range l {
		all = append(all, x.Path)
	}
	return all
}

// holds fails where others are valid, or others of these things; they rise.
func holds(t *testing.T, b *valid.DB, want ...thing) {
	t.Helper()
	if l := b.List(); !slices.Equal(l, paths(want...)) {
		t.Fatalf("List = %v, and not %v", l, paths(want...))
	}
	for _, x := range want {
		info, e := b.Info(x.Path)
		is(t, "Info", e, api.OK)
		got, e := b.Tree(x.Path)
		is(t, "Tree", e, api.OK)
		if !same(x, thing{info, got}) {
			t.Fatalf("there is %v, %v, and not %v", info, got, x)
		}
	}
	if l := b.Verify(); len(l) > 0 {
		t.Fatalf("Verify = %v", l)
	}
}

// exports: the pack of some paths, which must be that of some things.
func exports(t *testing.T, b *valid.DB, of []string, want ...thing) []byte {
	t.Helper()
	was := b.FS().Tree()
	p, e := pack.Export(b, of)
	if e != api.OK || !bytes.Equal(p, packed(want...)) {
		l, _, _ := pack.Read(p)
		t.Fatalf("Export(%v) = %v, %d, and not %v", of, l, e, paths(want...))
	}
	if !tree.Same(b.FS().Tree(), was) {
		t.Fatal("what only tells has changed something")
	}
	return p
}

// stays fails where Export has another error, or anything beside it.
func stays(t *testing.T, b *valid.DB, of []string, want api.Errno) {
	t.Helper()
	if p, e := pack.Export(b, of); e != want || p != nil {
		t.Errorf("Export(%q) = %d bytes, %d, and not %d", of, len(p), e, want)
	}
}

// imports fails where Import doesn't answer the paths of some things.
func imports(t *testing.T, b *valid.DB, p []byte, want ...thing) {
	t.Helper()
	if l, e := pack.Import(b, p); e != api.OK || !slices.Equal(l, paths(want...)) {
		t.Fatalf("Import = %v, %d, and not %v", l, e, paths(want...))
	}
}

// nothing fails where Import has another error, or anything beside it, or something has changed then.
func nothing(t *testing.T, what string, b *valid.DB, p []byte, want api.Errno) {
	t.Helper()
	was := b.FS().Tree()
	if l, e := pack.Import(b, p); e != want || l != nil {
		t.Errorf("%s: Import = %v, %d, and not %d", what, l, e, want)
	}
	if !tree.Same(b.FS().Tree(), was) {
		t.Errorf("%s: beside an error something has changed", what)
	}
}

// TestP21_2_Example: a, and all that it refers to, are valid in another store, with the same trees.
func TestP21_2_Example(t *testing.T) {
	_, b := fresh(t, 100)
	z := made(t, aPath, dir("f", file("z")), dPath)
	y := made(t, bPath, tool("y"), "", aPath, bPath)
	x := made(t, cPath, link("x"), dPath, bPath)
	more := made(t, samples.Path("4", "more"), file("more"), "", cPath)
	registers(t, b, x, y, z, more)
	p := exports(t, b, []string{cPath}, z, y, x)
	d, c := fresh(t, 100)
	imports(t, c, p, z, y, x)
	for range 2 {
		holds(t, c, z, y, x)
		c = falls(t, d)
	}
}

// knots: things of lines such as "a: b c", each with what it refers to.
func knots(t *testing.T, lines ...string) []thing {
	t.Helper()
	var l []thing
	for _, line := range lines {
		sign, rest, _ := strings.Cut(line, ":")
		var refs []string
		for _, ref := range strings.Fields(rest) {
			refs = append(refs, samples.Path(ref, ref))
		}
		l = append(l, made(t, samples.Path(sign, sign), file(line), "", refs...))
	}
	return l
}

// TestP21_2_ExportOrder: the closure, each behind what it refers to, at each place the least that can stand there.
func TestP21_2_ExportOrder(t *testing.T) {
	d, b := fresh(t, 200)
	l := knots(t, "0: z c", "1: 0 b", "a: b", "b", "c: z 9", "9: z", "z", "x: x a z", "m")
	registers(t, b, l...)
	of := func(signs string) []thing {
		var all []thing
		for _, sign := range strings.Fields(signs) {
			i := slices.IndexFunc(l, func(x thing) bool { return x.Path[:1] == sign })
			all = append(all, l[i])
		}
		return all
	}
	for range 2 {
		for _, c := range [][2]string{
			{"", ""},
			{"z", "z"},
			{"0", "z 9 c 0"},
			{"1", "b z 9 c 0 1"},
			{"x", "b a z x"},
			{"x 9", "b a z 9 x"},
			{"9 x", "b a z 9 x"},
			{"z z b z", "b z"},
			{"m 9", "m z 9"},
			{"a 1", "b a z 9 c 0 1"},
			{"0 1 a b c 9 z x m", "b a m z 9 c 0 1 x"},
		} {
			exports(t, b, paths(of(c[0])...), of(c[1])...)
		}
		b = falls(t, d)
	}
	if p, e := pack.Export(b, []string{}); e != api.OK || !bytes.Equal(p, packed()) {
		t.Errorf("of none Export = %q, %d", p, e)
	}
}

// TestP21_2_ExportWrong: the error of the first that has one.
func TestP21_2_ExportWrong(t *testing.T) {
	d, b := fresh(t, 100)
	registers(t, b, made(t, aPath, file("a"), dPath), made(t, bPath, file("b"), "", aPath))
	for range 2 {
		for _, wrong := range []string{"", "a", aPath[1:], aPath + "/f", "store/" + aPath, " " + aPath, aPath + "\n", samples.Path("1", strings.Repeat("n", api.MaxName+1)), samples.Path("e", "e")} {
			stays(t, b, []string{wrong}, api.ErrText)
			stays(t, b, []string{aPath, wrong, cPath}, api.ErrText)
			stays(t, b, []string{cPath, wrong}, api.ErrNone)
			stays(t, b, []string{bPath, cPath, wrong, aPath}, api.ErrNone)
			stays(t, nil, []string{wrong}, api.ErrNone)
		}
		for _, none := range []string{cPath, dPath, samples.Path("1", "A"), samples.Path("0", "a"), samples.Path("1", strings.Repeat("n", api.MaxName))} {
			stays(t, b, []string{none}, api.ErrNone)
			stays(t, b, []string{aPath, bPath, none}, api.ErrNone)
		}
		b = falls(t, d)
	}
	// What is gone can't be exported any more.
	is(t, "Remove", b.Remove(bPath), api.OK)
	stays(t, b, []string{bPath}, api.ErrNone)
	_, empty := fresh(t, 100)
	stays(t, empty, []string{aPath}, api.ErrNone)
	exports(t, empty, nil)
}

// TestP21_2_ExportOff: Export tells what there is, and does nothing on the device, also while the power is off.
func TestP21_2_ExportOff(t *testing.T) {
	d, b := fresh(t, 100)
	x, y := made(t, aPath, file("a"), dPath), made(t, bPath, file("b"), "", aPath)
	registers(t, b, x, y)
	ops := d.Ops()
	exports(t, b, []string{bPath}, x, y)
	if d.Ops() != ops {
		t.Error("Export has done something on the device")
	}
	is(t, "Off", samples.Off(d), api.ErrCrash)
	exports(t, b, []string{bPath}, x, y)
	stays(t, b, []string{cPath}, api.ErrNone)
}

// TestP21_2_ExportStrangers: what others have changed in the tree isn't exported as if it were as it was.
func TestP21_2_ExportStrangers(t *testing.T) {
	x, y, z := made(t, aPath, file("a"), ""), made(t, bPath, dir("f", tool("b")), "", aPath), made(t, cPath, file("c"), "")
	loop := x
	loop.Refs = []string{bPath}
	for name, c := range map[string]struct {
		edit api.Edit
		want api.Errno
	}{
		"another tree":           {api.Edit{Kind: api.OPut, Path: "store/" + aPath, Tree: file("A")}, api.ErrSum},
		"another kind":           {api.Edit{Kind: api.OPut, Path: "store/" + aPath, Tree: tool("a")}, api.ErrSum},
		"a name more":            {api.Edit{Kind: api.OMkdir, Path: "store/" + bPath + "/g"}, api.ErrSum},
		"a tree that is gone":    {api.Edit{Kind: api.ODrop, Path: "store/" + bPath}, api.ErrNone},
		"they refer in a circle": {api.Edit{Kind: api.OPut, Path: "db/" + aPath, Tree: file(text(loop.Info))}, api.ErrLoop},
	} {
		_, b := fresh(t, 100)
		registers(t, b, x, y, z)
		is(t, name, b.FS().Do([]api.Edit{c.edit}), api.OK)
		stays(t, b, []string{bPath}, c.want)
		if c.want != api.ErrLoop {
			exports(t, b, []string{cPath}, z)
		}
	}
}

// TestP21_2_Import: what stands in a pack is valid, in any order; what is valid already stays.
func TestP21_2_Import(t *testing.T) {
	x, y, z := made(t, aPath, file("a"), dPath), made(t, bPath, dir("f", link("b")), "", aPath, bPath), made(t, cPath, tool("c"), dPath, aPath, bPath)
	for _, ahead := range [][]thing{nil, {x}, {x, y}, {x, y, z}} {
		for _, l := range [][]thing{{x, y, z}, {z, y, x}, {y, z, x}} {
			d, b := fresh(t, 100)
			registers(t, b, ahead...)
			for range 2 {
				imports(t, b, packed(l...), l...)
				holds(t, b, x, y, z)
				b = falls(t, d)
				holds(t, b, x, y, z)
			}
		}
	}
	d, b := fresh(t, 100)
	imports(t, b, packed())
	holds(t, b)
	imports(t, b, packed(x), x)
	imports(t, b, packed(y), y)
	holds(t, b, x, y)
	// Who has made it is told as it was, as nothing changes of what is valid.
	other := x
	other.From = ""
	imports(t, b, packed(other, z), other, z)
	imports(t, b, packed(), []thing{}...)
	holds(t, falls(t, d), x, y, z)
}

// TestP21_2_ImportWrong: Read's errors and Register's, and nothing has changed then.
func TestP21_2_ImportWrong(t *testing.T) {
	x, y := made(t, aPath, file("a"), dPath), made(t, bPath, file("b"), "", aPath)
	z, loop := made(t, cPath, file("c"), "", bPath, cPath), made(t, bPath, file("b"), "", cPath)
	wrong, sum, form := x, z, z
	wrong.Sum[31]++
	sum.Size++
	form.tree = samples.Wide(api.MaxNodes)
	body := string(packed(z)[:len(packed(z))-32])
	_, b := fresh(t, 100)
	registers(t, b, x)
	for what, c := range map[string]struct {
		p    []byte
		want api.Errno
	}{
		"nothing":                    {nil, api.ErrForm},
		"too short":                  {packed(y)[:31], api.ErrForm},
		"cut off":                    {packed(y)[:99], api.ErrSum},
		"a byte more":                {append(packed(y), 0), api.ErrSum},
		"a byte more, in the digest": {sealed(body + "\x00"), api.ErrForm},
		"parts that aren't so":       {packed(y, form), api.ErrForm},
		"a sum that isn't its":       {packed(y, sum), api.ErrSum},
		"another sum":                {packed(y, wrong), api.ErrSum},
		"a path twice":               {packed(y, y), api.ErrExists},
		"a valid one twice":          {packed(x, x), api.ErrExists},
		"with another tree":          {packed(y, made(t, aPath, file("A"), dPath)), api.ErrExists},
		"with other references":      {packed(made(t, aPath, file("a"), dPath, bPath), made(t, bPath, file("b"), "")), api.ErrExists},
		"refers to what isn't there": {packed(x, z), api.ErrName},
		"a loop":                     {packed(z, loop), api.ErrLoop},
		"a loop, behind others":      {packed(x, loop, z), api.ErrLoop},
		"no room":                    {packed(y, made(t, cPath, file(strings.Repeat("c", 30000)), "")), api.ErrFull},
		"too many":                   {packed(y, made(t, cPath, samples.Wide(api.MaxNodes-5), "")), api.ErrLong},
		"too much":                   {packed(y, made(t, cPath, file(strings.Repeat("c", api.MaxData)), "")), api.ErrLong},
		"too deep":                   {packed(y, made(t, cPath, samples.Deep(api.MaxDepth-1, file("")), "")), api.ErrLong},
		// What Read finds goes ahead of all that Register does.
		"the name, then the sum":    {packed(z, z, sum), api.ErrSum},
		"the path twice, then more": {sealed(string(packed(x, x)[:len(packed(x, x))-32]) + "x"), api.ErrForm},
	} {
		nothing(t, what, b, c.p, c.want)
		if l, e := pack.Import(nil, c.p); e != api.ErrNone || l != nil {
			t.Errorf("%s: of no paths Import = %v, %d", what, l, e)
		}
	}
	holds(t, b, x)
	imports(t, b, packed(z, y), z, y)
	holds(t, b, x, y, z)
}

// TestP21_2_ImportOff: while the power is off only what is valid already is imported.
func TestP21_2_ImportOff(t *testing.T) {
	x, y := made(t, aPath, file("a"), dPath), made(t, bPath, file("b"), "", aPath)
	d, b := fresh(t, 100)
	registers(t, b, x)
	is(t, "Off", samples.Off(d), api.ErrCrash)
	for range 2 {
		nothing(t, "more", b, packed(x, y), api.ErrCrash)
		nothing(t, "what has no room", b, packed(made(t, cPath, file(strings.Repeat("c", 30000)), "")), api.ErrCrash)
		nothing(t, "a wrong one", b, packed(y)[:40], api.ErrSum)
		nothing(t, "one that isn't right", b, packed(x, x), api.ErrExists)
		imports(t, b, packed(x), x)
		imports(t, b, packed())
		is(t, "Restart", d.Restart(nil, -1, 0), api.OK) // it was off, and that is enough
	}
	b = falls(t, d)
	holds(t, b, x)
	imports(t, b, packed(x, y), x, y)
	holds(t, falls(t, d), x, y)
}

// TestP8_Built: what was built is exported, and is there in another store: nothing must be built again.
func TestP8_Built(t *testing.T) {
	_, b := fresh(t, 300)
	src, e := realise.AddTree(b, "src", dir("f", file("src")))
	is(t, "AddTree", e, api.OK)
	lib, e := realise.Add(b, api.Drv{Name: "lib", Sources: []string{src}, Recipe: "copy " + src + " f f"})
	is(t, "Add", e, api.OK)
	libOut, _ := realise.Out(b, lib)
	app, e := realise.Add(b, api.Drv{Name: "app", Drvs: []string{lib}, Recipe: "link l " + libOut + "/f\nwrite run x\nexec run"})
	is(t, "Add", e, api.OK)
	appOut, n, e := realise.Realise(b, app)
	if e != api.OK || n != 2 {
		t.Fatalf("Realise = %d, %d", n, e)
	}
	for _, c := range []struct {
		of   []string
		has  []string
		must int // be built then
	}{
		{[]string{app}, []string{src, lib, app}, 2},
		{[]string{app, libOut}, []string{src, lib, app, libOut}, 1},
		{[]string{app, appOut}, []string{src, lib, app, libOut, appOut}, 0},
		{[]string{appOut}, []string{libOut, appOut}, -1},
	} {
		p, e := pack.Export(b, c.of)
		is(t, "Export", e, api.OK)
		d, other := fresh(t, 300)
		l, e := pack.Import(other, p)
		is(t, "Import", e, api.OK)
		slices.Sort(c.has)
		slices.Sort(l)
		if !slices.Equal(l, c.has) || !slices.Equal(other.List(), c.has) || len(other.Verify()) > 0 {
			t.Fatalf("of %v Import = %v, and there are %v", c.of, l, other.List())
		}
		for _, path := range l {
			x, _ := b.Info(path)
			y, _ := other.Info(path)
			s, _ := b.Tree(path)
			u, e := other.Tree(path)
			if e != api.OK || !same(thing{x, s}, thing{y, u}) {
				t.Errorf("%s isn't the same", path)
			}
		}
		other = falls(t, d)
		out, n, e := realise.Realise(other, app)
		if c.must < 0 {
			if e != api.ErrNone {
				t.Errorf("without its derivation Realise = %d", e)
			}
		} else if e != api.OK || out != appOut || n != c.must {
			t.Errorf("Realise = %s, %d, %d", out, n, e)
		}
	}
}

// TestP8_Alone: what is imported is kept by nobody, and nothing else than the paths comes along.
func TestP8_Alone(t *testing.T) {
	x, y, z := made(t, aPath, file("a"), dPath), made(t, bPath, file("b"), "", aPath), made(t, cPath, file("c"), "")
	_, b := fresh(t, 100)
	registers(t, b, x, y, z)
	_, e := profile.Set(b, "p", bPath)
	is(t, "Set", e, api.OK)
	is(t, "Root", profile.Root(b, "r", bPath), api.OK)
	is(t, "Apply", b.Apply([]api.Edit{{Kind: api.OMkdir, Path: "n"}}), api.OK)
	p := exports(t, b, []string{bPath}, x, y)
	d, c := fresh(t, 100)
	registers(t, c, z)
	is(t, "Root", profile.Root(c, "z", cPath), api.OK)
	was := tree.Paths(c.FS().Tree())
	imports(t, c, p, x, y)
	if l := profile.Roots(c); !slices.Equal(l, []string{cPath}) {
		t.Errorf("Roots = %v", l)
	}
	want := slices.Concat(was, []string{"db/" + aPath, "db/" + bPath, "store/" + aPath, "store/" + bPath})
	slices.Sort(want)
	if l := tree.Paths(c.FS().Tree()); !slices.Equal(l, want) {
		t.Errorf("there is %q", l)
	}
	c = falls(t, d)
	if l, _, e := sweep.Collect(c, sweep.Keep{}, -1); e != api.OK || !slices.Equal(l, []string{bPath, aPath}) {
		t.Errorf("Collect = %v, %d", l, e)
	}
	imports(t, c, p, x, y)
	holds(t, falls(t, d), x, y, z)
}

// TestP1_NoDB: of none all is ErrNone, and no call panics of a zero object.
func TestP1_NoDB(t *testing.T) {
	x := made(t, aPath, file("a"), "")
	for _, of := range [][]string{nil, {}, {"x"}, {aPath}, {aPath, bPath}} {
		stays(t, nil, of, api.ErrNone)
		pack.Export(&valid.DB{}, of)
	}
	for _, p := range [][]byte{nil, {}, packed(), packed(x), packed(x)[1:], packed(x, x)} {
		if l, e := pack.Import(nil, p); e != api.ErrNone || l != nil {
			t.Errorf("Import = %v, %d", l, e)
		}
		pack.Import(&valid.DB{}, p)
	}
}

// TestP2_KeepsNothing: what Export and Import are handed stays as it is, and isn't kept.
func TestP2_KeepsNothing(t *testing.T) {
	x, y := made(t, aPath, dir("f", file("a")), dPath), made(t, bPath, file("b"), "", aPath, bPath)
	_, b := fresh(t, 100)
	registers(t, b, x, y)
	of := append([]string{bPath, aPath, bPath}, "spare", "room")
	want := packed(x, y)
	for range 2 {
		p := exports(t, b, of[:3], x, y)
		q := exports(t, b, of[:3], x, y)
		clear(p[:cap(p)])
		if !bytes.Equal(q, want) {
			t.Fatal("two packs share memory")
		}
	}
	if !slices.Equal(of, []string{bPath, aPath, bPath, "spare", "room"}) {
		t.Errorf("what was handed in is %q now", of)
	}
	d, c := fresh(t, 100)
	room := append(bytes.Clone(want), "spare"...)
	for range 2 {
		l, e := pack.Import(c, room[:len(want)])
		if e != api.OK || !bytes.Equal(room, append(bytes.Clone(want), "spare"...)) {
			t.Fatalf("Import = %d, or it has changed what was handed in", e)
		}
		clear(l[:cap(l)])
	}
	clear(room)
	holds(t, c, x, y)
	exports(t, c, []string{bPath}, x, y)
	holds(t, falls(t, d), x, y)
}
