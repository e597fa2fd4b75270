package valid_test

import (
	"slices"
	"strings"
	"testing"

	"staddle/api"
	"staddle/fsys"
	"staddle/nar"
	"staddle/samples"
	"staddle/sector"
	"staddle/tree"
	"staddle/valid"
)

var file, tool, link, dir = samples.File, samples.Tool, samples.Link, samples.Dir

func mkdir(path string) api.Edit           { return api.Edit{Kind: api.OMkdir, Path: path} }
func put(path string, t api.Tree) api.Edit { return api.Edit{Kind: api.OPut, Path: path, Tree: t} }
func move(path, from string) api.Edit      { return api.Edit{Kind: api.OMove, Path: path, From: from} }
func drop(path string) api.Edit            { return api.Edit{Kind: api.ODrop, Path: path} }

// is fails where a call answers another error.
func is(t *testing.T, what string, e, want api.Errno) {
	t.Helper()
	if e != want {
		t.Fatalf("%s = %d, and not %d", what, e, want)
	}
}

// formatted: a device with an empty directory, and that.
func formatted(t *testing.T, sectors int) (*sector.Device, *fsys.FS) {
	t.Helper()
	d, e := sector.New(sectors)
	is(t, "sector.New", e, api.OK)
	is(t, "fsys.Format", fsys.Format(d), api.OK)
	return d, mounted(t, d)
}

// mounted: the tree of a device.
func mounted(t *testing.T, d *sector.Device) *fsys.FS {
	t.Helper()
	f, e := fsys.Open(d)
	is(t, "fsys.Open", e, api.OK)
	return f
}

// opened: the paths of a tree.
func opened(t *testing.T, f *fsys.FS) *valid.DB {
	t.Helper()
	b, e := valid.Open(f)
	is(t, "Open", e, api.OK)
	if b == nil || b.FS() != f {
		t.Fatal("Open = nil, or FS isn't what Open was given")
	}
	return b
}

// fresh: a device without paths, and these.
func fresh(t *testing.T, sectors int) (*sector.Device, *valid.DB) {
	t.Helper()
	d, f := formatted(t, sectors)
	return d, opened(t, f)
}

// falls lets the power go off and on, and all that is on its way is lost; the paths that stand on the device then.
func falls(t *testing.T, d *sector.Device) *valid.DB {
	t.Helper()
	is(t, "Restart", d.Restart(nil, -1, 0), api.OK)
	return opened(t, mounted(t, d))
}

// off lets the power go off.
func off(t *testing.T, d *sector.Device) {
	t.Helper()
	is(t, "Arm", d.Arm(1), api.OK)
	is(t, "Sync", d.Sync(), api.ErrCrash)
}

// thing is a path with its tree.
type thing struct {
	api.Info
	tree api.Tree
}

// made: a path with its tree, which refers to some paths.
func made(t *testing.T, path string, x api.Tree, refs ...string) thing {
	t.Helper()
	info, e := valid.Make(path, x, refs, "")
	is(t, "Make", e, api.OK)
	return thing{info, x}
}

// parts: what is known of some things, and their trees.
func parts(l []thing) ([]api.Info, []api.Tree) {
	var infos []api.Info
	var trees []api.Tree
	for _, x := range l {
		infos = append(infos, x.Info)
		trees = append(trees, x.tree)
	}
	return infos, trees
}

// register: what Register answers of some things.
func register(b *valid.DB, l ...thing) api.Errno {
	infos, trees := parts(l)
	return b.Register(infos, trees)
}

// registers fails where some things can't be registered.
func registers(t *testing.T, b *valid.DB, l ...thing) {
	t.Helper()
	is(t, "Register", register(b, l...), api.OK)
}

// fails fails where Register has another error of some things, or something has changed then.
func fails(t *testing.T, b *valid.DB, want api.Errno, l ...thing) {
	t.Helper()
	was := b.FS().Tree()
	is(t, "Register", register(b, l...), want)
	if !tree.Same(b.FS().Tree(), was) {
		t.Fatal("beside an error something has changed")
	}
}

// holds fails where other things are valid than these, or anything that is told isn't so; the things rise.
func holds(t *testing.T, b *valid.DB, want ...thing) {
	t.Helper()
	store, db := dir(), dir()
	var paths []string
	for _, x := range want {
		paths = append(paths, x.Path)
		store.Names, store.Kids = append(store.Names, x.Path), append(store.Kids, x.tree)
		db.Names, db.Kids = append(db.Names, x.Path), append(db.Kids, file(written(x.Info)))
		if y, e := b.Info(x.Path); e != api.OK || !sameInfo(x.Info, y) {
			t.Fatalf("Info(%s) = %v, %d, and not %v", x.Path, y, e, x.Info)
		}
		if y, e := b.Tree(x.Path); e != api.OK || !tree.Same(x.tree, y) {
			t.Fatalf("Tree(%s) = %v, %d, and not %v", x.Path, y, e, x.tree)
		}
		if !b.Is(x.Path) {
			t.Fatalf("Is(%s) = false", x.Path)
		}
	}
	if l := b.List(); !slices.Equal(l, paths) {
		t.Fatalf("List = %v, and not %v", l, paths)
	}
	if l := b.Verify(); len(l) > 0 {
		t.Fatalf("Verify = %v", l)
	}
	for name, want := range map[string]api.Tree{"store": store, "db": db} {
		if x, e := b.FS().At(name); e != api.OK || !tree.Same(x, want) {
			t.Fatalf("in %s is %v, %d, and not %v", name, x, e, want)
		}
	}
}

// gone fails where something is told of what isn't valid.
func gone(t *testing.T, b *valid.DB, path string, want api.Errno) {
	t.Helper()
	x, e := b.Info(path)
	y, e2 := b.Tree(path)
	if e != want || e2 != want || !nothing(x) || !tree.Same(y, api.Tree{}) || b.Is(path) {
		t.Errorf("of %.50q, which isn't valid: Info = %v, %d, Tree = %v, %d, Is = %v", path, x, e, y, e2, b.Is(path))
	}
}

func TestP17_3_Example(t *testing.T) {
	d, b := fresh(t, 30)
	x, y := made(t, aPath, file("a"), bPath), made(t, bPath, file("b"))
	fails(t, b, api.ErrName, x)
	holds(t, b)
	registers(t, b, x, y)
	holds(t, b, x, y)
	is(t, "Remove", b.Remove(bPath), api.ErrBusy)
	holds(t, b, x, y)
	holds(t, falls(t, d), x, y)
}

func TestP17_2_Open(t *testing.T) {
	both := dir("db", dir(), "store", dir())
	some := dir("a", file("x"), "db", dir("n", file("")), "e", link("a"), "store", dir("n", dir()))
	for name, x := range map[string]struct {
		ahead  []api.Edit
		behind api.Tree
	}{
		"nothing":                    {nil, both},
		"both":                       {[]api.Edit{mkdir("db"), mkdir("store")}, both},
		"db alone":                   {[]api.Edit{mkdir("db")}, both},
		"store alone":                {[]api.Edit{mkdir("store")}, both},
		"others, and what is in all": {[]api.Edit{put("a", file("x")), put("db", some.Kids[1]), put("e", link("a")), put("store", some.Kids[3])}, some},
		"names that begin so":        {[]api.Edit{mkdir("dba"), mkdir("d"), put("stor", file("")), mkdir("stores")}, dir("d", dir(), "db", dir(), "dba", dir(), "stor", file(""), "store", dir(), "stores", dir())},
		"db is a file":               {[]api.Edit{put("db", file("x")), put("store", dir("n", dir()))}, dir("db", dir(), "store", dir("n", dir()))},
		"store is a link":            {[]api.Edit{put("store", link("db")), put("db", dir("n", file("")))}, dir("db", dir("n", file("")), "store", dir())},
		"they stand elsewhere":       {[]api.Edit{put("x", both)}, dir("db", dir(), "store", dir(), "x", both)},
	} {
		d, f := formatted(t, 30)
		is(t, "Do", f.Do(x.ahead), api.OK)
		b := opened(t, f)
		for range 2 {
			if got := b.FS().Tree(); !tree.Same(got, x.behind) {
				t.Errorf("%s: there is %q, and not %q", name, tree.Paths(got), tree.Paths(x.behind))
			}
			if len(b.List()) > 0 || len(b.Verify()) > 0 || len(b.Graph().Names()) > 0 {
				t.Errorf("%s: some paths are valid", name)
			}
			// What it got is durable, and a second Open changes nothing.
			b = falls(t, d)
		}
		registers(t, b, made(t, aPath, file("a")))
	}
}

func TestP17_2_OpenWrong(t *testing.T) {
	if b, e := valid.Open(nil); b != nil || e != api.ErrNone {
		t.Errorf("Open(nil) = %v, %d", b, e)
	}
	no := func(f *fsys.FS, want api.Errno) {
		t.Helper()
		was := f.Tree()
		if b, e := valid.Open(f); b != nil || e != want {
			t.Fatalf("Open = %v, %d, and not %d", b, e, want)
		}
		if !tree.Same(f.Tree(), was) {
			t.Fatal("beside an error something has changed")
		}
	}
	// Where something is lacking it can't be had while the power is off.
	for _, ahead := range [][]api.Edit{nil, {mkdir("db")}, {mkdir("store")}} {
		d, f := formatted(t, 30)
		is(t, "Do", f.Do(ahead), api.OK)
		off(t, d)
		no(f, api.ErrCrash)
		is(t, "Restart", d.Restart(nil, -1, 0), api.OK)
		no(f, api.ErrCrash)
		opened(t, mounted(t, d))
	}
	// On the least device there is just room for both, and none for both and a file.
	_, f := formatted(t, 6)
	opened(t, f)
	_, f = formatted(t, 6)
	is(t, "Do", f.Do([]api.Edit{put("a", file("x"))}), api.OK)
	no(f, api.ErrFull)
	// At most one tree more has room beside so many.
	_, f = formatted(t, api.MaxSectors)
	is(t, "Do", f.Do([]api.Edit{put("a", samples.Wide(api.MaxNodes-3))}), api.OK)
	no(f, api.ErrLong)
	is(t, "Do", f.Do([]api.Edit{put("a", samples.Wide(api.MaxNodes-4))}), api.OK)
	opened(t, f)
}

func TestP17_2_Told(t *testing.T) {
	d, b := fresh(t, 60)
	holds(t, b)
	x := made(t, cPath, dir("f", file("text"), "g", link(aPath)), aPath, cPath)
	x.From = pathOf(7, "c.drv")
	y := made(t, aPath, tool("run"))
	z := made(t, pathOf(1, "A"), link("x"), aPath)
	registers(t, b, x, y)
	holds(t, b, y, x)
	registers(t, b, z)
	for range 3 {
		holds(t, b, z, y, x)
		for _, path := range []string{bPath, pathOf(7, "c.drv"), aPath + "a", pathOf(1, "aa"), pathOf(0, "a"), pathOf(1, strings.Repeat("n", api.MaxName))} {
			gone(t, b, path, api.ErrNone)
		}
		for _, path := range []string{"", "a", "db", "store", aPath + "/f", cPath + "/f", "store/" + aPath, aPath[1:], aPath[:32], "/", "..", "../db/" + aPath, strings.Repeat("x", 1000), pathOf(1, strings.Repeat("n", api.MaxName+1))} {
			gone(t, b, path, api.ErrText)
		}
		b = falls(t, d)
	}
	// What is told is told on while the power is off.
	off(t, d)
	holds(t, b, z, y, x)
}

// TestP17_2_ToldOfOthers: what stands in db and tells nothing of its path makes no path valid.
func TestP17_2_ToldOfOthers(t *testing.T) {
	_, b := fresh(t, 60)
	x := made(t, bPath, file("b"))
	registers(t, b, x)
	wrong := x.Info
	wrong.Path = aPath
	text := written(wrong)
	for name, l := range map[string][]api.Edit{
		"nothing in db":   nil,
		"nothing in it":   {put("db/"+aPath, file(""))},
		"another text":    {put("db/"+aPath, file("x"))},
		"of another path": {put("db/"+aPath, file(written(x.Info)))},
		"a line more":     {put("db/"+aPath, file(text+"\n"))},
		"a directory":     {mkdir("db/" + aPath)},
		"a link":          {put("db/"+aPath, link(text))},
		"deeper":          {mkdir("db/" + cPath), put("db/"+cPath+"/"+aPath, file(text))},
		"of no path":      {put("db/x", file(text)), mkdir("db/y")},
	} {
		is(t, name+": Do", b.FS().Do(append(l, put("store/"+aPath, x.tree))), api.OK)
		gone(t, b, aPath, api.ErrNone)
		if l := b.List(); !slices.Equal(l, []string{bPath}) || len(b.Verify()) > 0 {
			t.Errorf("%s: List = %v, Verify = %v", name, l, b.Verify())
		}
		fails(t, b, api.ErrName, made(t, cPath, file("c"), aPath))
		is(t, "Remove", b.Remove(aPath), api.ErrNone)
		// What isn't valid can be made so.
		y := made(t, aPath, tool("new"))
		registers(t, b, y)
		if z, e := b.Tree(aPath); e != api.OK || !tree.Same(z, y.tree) || !slices.Equal(b.List(), []string{aPath, bPath}) {
			t.Errorf("%s: Tree = %v, %d", name, z, e)
		}
		is(t, "Remove", b.Remove(aPath), api.OK)
		b.FS().Do([]api.Edit{put("db", dir(bPath, file(written(x.Info)))), put("store", dir(bPath, x.tree))})
		holds(t, b, x)
	}
	is(t, "Do", b.FS().Do([]api.Edit{put("db/"+aPath, tool(text)), put("store/"+aPath, x.tree)}), api.OK)
	if y, e := b.Info(aPath); e != api.OK || !sameInfo(y, wrong) {
		t.Errorf("a file to be executed: Info = %v, %d", y, e)
	}
	// Without the directories nothing is valid, and nothing can be.
	for _, l := range [][]api.Edit{{drop("db")}, {put("db", file(text))}} {
		is(t, "Do", b.FS().Do(l), api.OK)
		gone(t, b, bPath, api.ErrNone)
		if len(b.List()) > 0 || len(b.Verify()) > 0 {
			t.Error("something is valid without db")
		}
		if e := register(b, made(t, cPath, file("c"))); e != api.ErrNone && e != api.ErrKind {
			t.Errorf("Register without db = %d", e)
		}
	}
	registers(t, opened(t, b.FS()), x)
}

func TestP17_4_Graph(t *testing.T) {
	d, b := fresh(t, 100)
	at := func(n int) string { return pathOf(n, "p") }
	l := []thing{
		made(t, at(0), file("0"), at(3), at(5)),
		made(t, at(1), file("1"), at(1)),
		made(t, at(2), file("2")),
		made(t, at(3), file("3"), at(2), at(3)),
		made(t, at(4), file("4"), at(0), at(1), at(2), at(3), at(4), at(5)),
		made(t, at(5), file("5"), at(2)),
	}
	registers(t, b, l...)
	for range 2 {
		g := b.Graph()
		if names := g.Names(); !slices.Equal(names, b.List()) || len(names) != len(l) {
			t.Fatalf("Names = %v", names)
		}
		sorted, e := g.Sort()
		if want := []string{at(1), at(2), at(3), at(5), at(0), at(4)}; e != api.OK || !slices.Equal(sorted, want) {
			t.Errorf("Sort = %v, %d, and not %v", sorted, e, want)
		}
		for n, want := range [][]string{{at(4)}, {at(4)}, {at(3), at(4), at(5)}, {at(0), at(4)}, nil, {at(0), at(4)}} {
			if l := b.Users(at(n)); !slices.Equal(l, want) || !slices.Equal(l, g.Users(at(n))) {
				t.Errorf("Users(%d) = %v, and not %v", n, l, want)
			}
		}
		for n, want := range [][]string{{at(0), at(2), at(3), at(5)}, {at(1)}, {at(2)}, {at(2), at(3)}, {at(0), at(1), at(2), at(3), at(4), at(5)}, {at(2), at(5)}} {
			if l := b.Closure([]string{at(n)}); !slices.Equal(l, want) || !slices.Equal(l, g.Closure([]string{at(n)})) {
				t.Errorf("Closure(%d) = %v, and not %v", n, l, want)
			}
		}
		for _, roots := range [][]string{nil, {}, {"x"}, {at(9), ""}} {
			if l := b.Closure(roots); len(l) > 0 {
				t.Errorf("Closure(%v) = %v", roots, l)
			}
		}
		if l := b.Closure([]string{at(5), "x", at(1), at(5)}); !slices.Equal(l, []string{at(1), at(2), at(5)}) {
			t.Errorf("Closure = %v", l)
		}
		for _, path := range []string{"", "x", at(9)} {
			if l := b.Users(path); len(l) > 0 {
				t.Errorf("Users(%s) = %v", path, l)
			}
		}
		b = falls(t, d)
	}
	is(t, "Remove", b.Remove(at(4)), api.OK)
	if l := b.Users(at(2)); !slices.Equal(l, []string{at(3), at(5)}) || len(b.Closure([]string{at(4)})) > 0 {
		t.Errorf("behind Remove: Users = %v", l)
	}
}

func TestP17_4_Verify(t *testing.T) {
	x := made(t, aPath, dir("f", file("a"), "g", link("f")))
	y, z := made(t, bPath, tool("b"), aPath, bPath), made(t, cPath, file("c"), bPath)
	other := z.Info
	other.Sum[31] ^= 1
	for name, r := range map[string]struct {
		l    []api.Edit
		want []string
	}{
		"nothing":                      {nil, nil},
		"a tree that goes":             {[]api.Edit{drop("store/" + aPath)}, []string{aPath}},
		"all trees":                    {[]api.Edit{drop("store")}, []string{aPath, bPath, cPath}},
		"a file in the place of them":  {[]api.Edit{put("store", file(""))}, []string{aPath, bPath, cPath}},
		"another tree":                 {[]api.Edit{put("store/"+bPath, tool("B"))}, []string{bPath}},
		"not to be executed":           {[]api.Edit{put("store/"+bPath, file("b"))}, []string{bPath}},
		"a name more":                  {[]api.Edit{mkdir("store/" + aPath + "/h")}, []string{aPath}},
		"a name less":                  {[]api.Edit{drop("store/" + aPath + "/f")}, []string{aPath}},
		"another name":                 {[]api.Edit{move("store/"+aPath+"/h", "store/"+aPath+"/f")}, []string{aPath}},
		"another target":               {[]api.Edit{put("store/"+aPath+"/g", link("h"))}, []string{aPath}},
		"the same":                     {[]api.Edit{put("store/"+aPath+"/g", link("f"))}, nil},
		"two trees":                    {[]api.Edit{put("store/"+aPath, file("")), put("store/"+cPath, file(""))}, []string{aPath, cPath}},
		"they change places":           {[]api.Edit{move("store/x", "store/"+aPath), move("store/"+aPath, "store/"+cPath), move("store/"+cPath, "store/x")}, []string{aPath, cPath}},
		"what is known goes":           {[]api.Edit{drop("db/" + aPath)}, []string{bPath}},
		"what is known of the one":     {[]api.Edit{drop("db/" + bPath)}, []string{cPath}},
		"nobody refers to it":          {[]api.Edit{drop("db/" + cPath)}, nil},
		"nothing is known":             {[]api.Edit{put("db", dir())}, nil},
		"another sum":                  {[]api.Edit{put("db/"+cPath, file(written(other)))}, []string{cPath}},
		"another tree, and its sum":    {[]api.Edit{put("store/"+cPath, link("x")), put("db/"+cPath, file(written(made(t, cPath, link("x"), bPath).Info)))}, nil},
		"refers to what isn't there":   {[]api.Edit{put("db/"+aPath, file(written(made(t, aPath, x.tree, pathOf(8, "x")).Info)))}, []string{aPath}},
		"a tree of nothing":            {[]api.Edit{put("store/x", file("")), put("store/"+pathOf(8, "x"), file(""))}, nil},
		"what is known of another one": {[]api.Edit{put("db/"+aPath, file(written(z.Info)))}, []string{bPath}},
	} {
		_, b := fresh(t, 60)
		registers(t, b, x, y, z)
		is(t, "Do", b.FS().Do(r.l), api.OK)
		for range 2 {
			if l := b.Verify(); !slices.Equal(l, r.want) {
				t.Errorf("%s: Verify = %v, and not %v", name, l, r.want)
			}
			b = opened(t, b.FS())
			if name == "all trees" || name == "a file in the place of them" {
				is(t, "Do", b.FS().Do([]api.Edit{put("store", dir())}), api.OK)
			}
		}
		// A path whose tree others have taken away can be removed like any other.
		for _, path := range []string{cPath, bPath, aPath} {
			if b.Is(path) {
				is(t, name+": Remove", b.Remove(path), api.OK)
				gone(t, b, path, api.ErrNone)
			}
		}
	}
}

func TestP17_4_VerifyNoSum(t *testing.T) {
	_, b := fresh(t, 60)
	x := api.Info{Path: aPath}
	is(t, "Do", b.FS().Do([]api.Edit{put("db/"+aPath, file(written(x)))}), api.OK)
	if l := b.Verify(); !b.Is(aPath) || !slices.Equal(l, []string{aPath}) {
		t.Errorf("of a path without a tree, and a sum of noughts: Verify = %v", l)
	}
	if y, e := b.Tree(aPath); e != api.ErrNone || !tree.Same(y, api.Tree{}) {
		t.Errorf("of a path without a tree: Tree = %v, %d", y, e)
	}
}

func TestP17_4_Apply(t *testing.T) {
	d, b := fresh(t, 60)
	x := made(t, aPath, file("a"))
	registers(t, b, x)
	is(t, "Apply", b.Apply(nil), api.OK)
	is(t, "Apply", b.Apply([]api.Edit{mkdir("roots"), put("roots/r", link(aPath)), mkdir("a"), mkdir("a/db"), mkdir("a/store"), put("a/store/f", file("x")), move("stores", "a/store"), drop("a/db"), put("dbx", file("")), mkdir("d"), mkdir("s"), mkdir("Db"), mkdir("store.")}), api.OK)
	for range 2 {
		for path, kind := range map[string]byte{"roots/r": api.Link, "stores/f": api.File, "dbx": api.File, "d": api.Dir, "s": api.Dir, "Db": api.Dir, "store.": api.Dir} {
			if y, e := b.FS().At(path); e != api.OK || y.Kind != kind {
				t.Errorf("%s is %v, %d", path, y, e)
			}
		}
		holds(t, b, x)
		b = falls(t, d)
	}
	is(t, "Apply", b.Apply([]api.Edit{drop("stores"), drop("dbx"), drop("roots")}), api.OK)
	holds(t, b, x)
}

func TestP17_4_ApplyWrong(t *testing.T) {
	d, b := fresh(t, 60)
	x := made(t, aPath, file("a"))
	registers(t, b, x)
	is(t, "Apply", b.Apply([]api.Edit{mkdir("a")}), api.OK)
	whole := b.FS().Tree()
	refuses := func(want api.Errno, l ...api.Edit) {
		t.Helper()
		is(t, "Apply", b.Apply(l), want)
		if !tree.Same(b.FS().Tree(), whole) {
			t.Fatal("beside an error something has changed")
		}
	}
	for _, name := range []string{"db", "store", "db/", "store/", "db/x", "store/x", "db/" + aPath, "store/" + aPath, "db//", "store/../a", "db/\x00", "store/" + strings.Repeat("x", 500)} {
		for kind := range byte(7) {
			refuses(api.ErrBusy, api.Edit{Kind: kind, Path: name})
			refuses(api.ErrBusy, api.Edit{Kind: kind, Path: "n", From: name})
			refuses(api.ErrBusy, api.Edit{Kind: kind, Path: "", From: name})
			refuses(api.ErrBusy, mkdir("n"), api.Edit{Kind: kind, Path: name, Tree: file("x")})
			// Ahead of all other errors, of whatever edit.
			refuses(api.ErrBusy, api.Edit{}, drop("x"), mkdir("a"), api.Edit{Kind: kind, Path: "x/", From: name})
		}
		refuses(api.ErrBusy, move(name, "a"))
		refuses(api.ErrBusy, move("b", name))
	}
	with, from := mkdir("n"), put("n", file(""))
	with.Tree, from.From = dir(), "a"
	for _, wrong := range []api.Edit{{}, with, from, {Kind: 5, Path: "n"}, mkdir(""), mkdir("/db"), mkdir("./db"), mkdir("n/"), mkdir("n//m"), put("n", api.Tree{}), move("n", ""), move("", "a"), mkdir(strings.Repeat("n", 401)), drop("..")} {
		refuses(api.ErrForm, wrong)
		refuses(api.ErrForm, mkdir("n"), wrong)
		// Ahead of fsys.Do's error of the edit ahead of it.
		refuses(api.ErrForm, mkdir("a"), wrong)
		refuses(api.ErrForm, wrong, drop("x"))
	}
	refuses(api.ErrExists, mkdir("n"), mkdir("a"))
	refuses(api.ErrNone, drop("x"))
	refuses(api.ErrNone, mkdir("x/db"))
	refuses(api.ErrLoop, move("a/b", "a"))
	refuses(api.ErrFull, put("n", file(strings.Repeat("x", 20000))))
	refuses(api.ErrLong, put("n", samples.Deep(api.MaxDepth, file("x"))))
	refuses(api.ErrExists, mkdir("Db"), mkdir("Db"))
	off(t, d)
	refuses(api.ErrBusy, mkdir("db"))
	refuses(api.ErrForm, api.Edit{})
	refuses(api.ErrCrash, mkdir("a"))
	refuses(api.ErrCrash)
	holds(t, falls(t, d), x)
}

func TestP17_4_Nil(t *testing.T) {
	var b *valid.DB
	for _, path := range []string{"", "x", aPath} {
		gone(t, b, path, api.ErrNone)
		is(t, "Remove", b.Remove(path), api.ErrNone)
		if len(b.Users(path)) > 0 || len(b.Closure([]string{path})) > 0 {
			t.Error("Users or Closure of a nil DB tell something")
		}
	}
	if b.FS() != nil || b.Graph() != nil || len(b.List()) > 0 || len(b.Verify()) > 0 {
		t.Error("a nil DB tells something")
	}
	is(t, "Register", b.Register(nil, nil), api.ErrNone)
	is(t, "Register", b.Register([]api.Info{{}}, nil), api.ErrNone)
	is(t, "Register", b.Register(make([]api.Info, 2), make([]api.Tree, 2)), api.ErrNone)
	is(t, "Register", register(b, made(t, aPath, file("a"))), api.ErrNone)
	for _, l := range [][]api.Edit{nil, {{}}, {mkdir("a")}, {mkdir("db")}} {
		is(t, "Apply", b.Apply(l), api.ErrNone)
	}
}

// TestP1_ZeroDBEnds: nothing is promised of it but that no call panics.
func TestP1_ZeroDBEnds(t *testing.T) {
	var b valid.DB
	b.FS()
	b.Info(aPath)
	b.Is(aPath)
	b.List()
	b.Tree(aPath)
	b.Register(nil, nil)
	register(&b, made(t, aPath, file("a")))
	b.Remove(aPath)
	b.Graph()
	b.Users(aPath)
	b.Closure([]string{aPath})
	b.Verify()
	b.Apply(nil)
}

// TestP1_AnyTreeEnds: what is no tree is refused, however deep or wide it is.
func TestP1_AnyTreeEnds(t *testing.T) {
	_, b := fresh(t, 60)
	registers(t, b, made(t, bPath, file("b")))
	wrong := samples.Wrong()
	wrong["far too deep"] = samples.Deep(200000, file(""))
	for name, x := range wrong {
		if info, e := valid.Make(aPath, x, nil, ""); e != api.ErrForm || !nothing(info) {
			t.Errorf("%s: Make = %v, %d", name, info, e)
		}
		fails(t, b, api.ErrForm, thing{api.Info{Path: aPath}, x})
		fails(t, b, api.ErrForm, thing{api.Info{Path: bPath}, x})
		fails(t, b, api.ErrForm, thing{api.Info{}, x})
		is(t, "Apply", b.Apply([]api.Edit{put("n", x)}), api.ErrForm)
	}
	for _, x := range []api.Tree{{}, wrong["far too deep"]} {
		sum, size, e := nar.Sum(x)
		if e != api.ErrForm || size != 0 || sum != [32]byte{} {
			t.Errorf("nar.Sum = %v, %d, %d", sum, size, e)
		}
	}
}
