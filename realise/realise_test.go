package realise_test

import (
	"crypto/sha256"
	"slices"
	"strings"
	"testing"

	"staddle/api"
	"staddle/base"
	"staddle/drv"
	"staddle/naming"
	"staddle/nar"
	"staddle/realise"
	"staddle/samples"
	"staddle/sector"
	"staddle/tree"
	"staddle/valid"
)

var file, tool, link, dir = samples.File, samples.Tool, samples.Link, samples.Dir

// pathOf: a path whose digest's signs all are one.
func pathOf(sign, name string) string {
	return strings.Repeat(sign, naming.Signs) + "-" + name
}

// is fails where a call answers another error.
func is(t *testing.T, what string, e, want api.Errno) {
	t.Helper()
	if e != want {
		t.Fatalf("%s = %d, and not %d", what, e, want)
	}
}

// fresh: a device on which no path is valid, and its paths.
func fresh(t *testing.T, sectors int) (*sector.Device, *valid.DB) {
	t.Helper()
	d, b, e := samples.Store(sectors)
	is(t, "Store", e, api.OK)
	return d, b
}

// falls lets the power go off and on, and all that is on its way is lost; the paths that stand on the device then.
func falls(t *testing.T, d *sector.Device) *valid.DB {
	t.Helper()
	is(t, "Restart", d.Restart(nil, -1, 0), api.OK)
	b, e := samples.Stored(d)
	is(t, "Stored", e, api.OK)
	return b
}

// off lets the power go off.
func off(t *testing.T, d *sector.Device) {
	t.Helper()
	is(t, "Arm", d.Arm(1), api.OK)
	is(t, "Sync", d.Sync(), api.ErrCrash)
}

// made: a derivation, of what it needs in any order.
func made(name, recipe string, needs ...string) api.Drv {
	d := api.Drv{Name: name, Recipe: recipe}
	for _, path := range needs {
		if drv.IsPath(path) {
			d.Drvs = append(d.Drvs, path)
		} else {
			d.Sources = append(d.Sources, path)
		}
	}
	slices.Sort(d.Drvs)
	slices.Sort(d.Sources)
	return d
}

// digits: the digest of a tree.
func digits(t *testing.T, x api.Tree) string {
	t.Helper()
	sum, _, e := nar.Sum(x)
	is(t, "nar.Sum", e, api.OK)
	return base.Hex(sum[:])
}

// fixed: the same derivation, of which it is told ahead that it makes a tree.
func fixed(t *testing.T, d api.Drv, x api.Tree) api.Drv {
	t.Helper()
	d.Fixed = digits(t, x)
	return d
}

// adds fails where a derivation can't be added; its path.
func adds(t *testing.T, b *valid.DB, d api.Drv) string {
	t.Helper()
	path, e := realise.Add(b, d)
	is(t, "Add", e, api.OK)
	if want, _ := drv.Path(d); path != want {
		t.Fatalf("Add = %s, and not %s", path, want)
	}
	return path
}

// addsTree fails where a tree can't be added; its path.
func addsTree(t *testing.T, b *valid.DB, name string, x api.Tree) string {
	t.Helper()
	path, e := realise.AddTree(b, name, x)
	is(t, "AddTree", e, api.OK)
	return path
}

// registers makes a path valid by the way that leads past this layer.
func registers(t *testing.T, b *valid.DB, path string, x api.Tree, refs ...string) string {
	t.Helper()
	info, e := valid.Make(path, x, refs, "")
	is(t, "Make", e, api.OK)
	is(t, "Register", b.Register([]api.Info{info}, []api.Tree{x}), api.OK)
	return path
}

// has fails where other things are known of a path.
func has(t *testing.T, b *valid.DB, path string, x api.Tree, from string, refs ...string) {
	t.Helper()
	want, e := valid.Make(path, x, refs, from)
	is(t, "Make", e, api.OK)
	info, e := b.Info(path)
	is(t, "Info", e, api.OK)
	if info.Path != path || info.Sum != want.Sum || info.Size != want.Size || info.From != from || !slices.Equal(info.Refs, want.Refs) {
		t.Fatalf("Info = %v, and not %v", info, want)
	}
	if y, e := b.Tree(path); e != api.OK || !tree.Same(x, y) {
		t.Fatalf("Tree = %v, %d, and not %v", y, e, x)
	}
	if l := b.Verify(); len(l) > 0 {
		t.Fatalf("Verify = %v", l)
	}
}

// stays fails where a call changes anything.
func stays(t *testing.T, b *valid.DB, call func()) {
	t.Helper()
	was := b.FS().Tree()
	call()
	if !tree.Same(b.FS().Tree(), was) {
		t.Fatal("something has changed")
	}
}

// fails fails where Add has another error, or something has changed then.
func fails(t *testing.T, b *valid.DB, d api.Drv, want api.Errno) {
	t.Helper()
	stays(t, b, func() {
		if path, e := realise.Add(b, d); e != want || path != "" {
			t.Fatalf("Add(%.300v) = %q, %d, and not %d", d, path, e, want)
		}
	})
}

// failsTree fails where AddTree has another error, or something has changed then.
func failsTree(t *testing.T, b *valid.DB, name string, x api.Tree, want api.Errno) {
	t.Helper()
	stays(t, b, func() {
		if path, e := realise.AddTree(b, name, x); e != want || path != "" {
			t.Fatalf("AddTree(%.100q) = %q, %d, and not %d", name, path, e, want)
		}
	})
}

// gets fails where a path has another derivation.
func gets(t *testing.T, b *valid.DB, path string, want api.Drv) {
	t.Helper()
	d, e := realise.Get(b, path)
	if e != api.OK || !sameDrv(d, want) {
		t.Fatalf("Get(%s) = %v, %d, and not %v", path, d, e, want)
	}
}

// sameDrv: are they alike?
func sameDrv(c, d api.Drv) bool {
	return c.Name == d.Name && slices.Equal(c.Drvs, d.Drvs) && slices.Equal(c.Sources, d.Sources) && c.Recipe == d.Recipe && c.Fixed == d.Fixed
}

// getsNone fails where Get has another error.
func getsNone(t *testing.T, b *valid.DB, path string, want api.Errno) {
	t.Helper()
	stays(t, b, func() {
		if d, e := realise.Get(b, path); e != want || !sameDrv(d, api.Drv{}) {
			t.Fatalf("Get(%.100q) = %v, %d, and not %d", path, d, e, want)
		}
	})
}

// textOf: the file in which a derivation is kept.
func textOf(t *testing.T, d api.Drv) api.Tree {
	t.Helper()
	text, e := drv.Text(d)
	is(t, "Text", e, api.OK)
	return file(text)
}

// sourceOf: the path of a tree that is kept by its digest, by another way.
func sourceOf(t *testing.T, x api.Tree, name string) string {
	t.Helper()
	return pathBy(t, "source", digits(t, x), name)
}

// pathBy: the path of a thing of a kind, by another way.
func pathBy(t *testing.T, kind, digits, name string) string {
	t.Helper()
	sum := sha256.Sum256([]byte(kind + ":sha256:" + digits + ":/staddle:" + name))
	var d [20]byte
	for i := range sum {
		d[i%20] ^= sum[i]
	}
	path, e := naming.Path(d, name)
	is(t, "naming.Path", e, api.OK)
	return path
}
