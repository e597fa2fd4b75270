package profile_test

import (
	"maps"
	"slices"
	"strconv"
	"testing"

	"staddle/api"
	"staddle/nar"
	"staddle/profile"
	"staddle/samples"
	"staddle/sector"
	"staddle/tree"
	"staddle/valid"
)

// model is profiles and roots, as the document has them.
type model struct {
	now   map[string]int            // of each profile
	gens  map[string]map[int]string // of each profile the paths
	roots map[string]string
	dirs  [2]bool // have there been profiles, or roots?
}

// copied: the same, to be changed.
func (m model) copied() model {
	gens := map[string]map[int]string{}
	for name, l := range m.gens {
		gens[name] = maps.Clone(l)
	}
	return model{maps.Clone(m.now), gens, maps.Clone(m.roots), m.dirs}
}

// whole: the tree in which all stands, beside the valid paths.
func (m model) whole(db, store api.Tree) api.Tree {
	profiles, roots := dir(), links(m.roots)
	for _, name := range slices.Sorted(maps.Keys(m.gens)) {
		digits := map[string]string{"now": strconv.Itoa(m.now[name])}
		for n, path := range m.gens[name] {
			digits[strconv.Itoa(n)] = path
		}
		profiles.Names, profiles.Kids = append(profiles.Names, name), append(profiles.Kids, links(digits))
	}
	switch m.dirs {
	case [2]bool{true, true}:
		return dir("db", db, "profiles", profiles, "roots", roots, "store", store)
	case [2]bool{true, false}:
		return dir("db", db, "profiles", profiles, "store", store)
	case [2]bool{false, true}:
		return dir("db", db, "roots", roots, "store", store)
	}
	return dir("db", db, "store", store)
}

// links: a directory with links.
func links(l map[string]string) api.Tree {
	x := dir()
	for _, name := range slices.Sorted(maps.Keys(l)) {
		x.Names, x.Kids = append(x.Names, name), append(x.Kids, link(l[name]))
	}
	return x
}

// set: one generation more.
func (m *model) set(name, path string) int {
	n := 1
	for k := range m.gens[name] {
		n = max(n, k+1)
	}
	if m.gens[name] == nil {
		m.gens[name] = map[int]string{}
	}
	m.gens[name][n], m.now[name], m.dirs[0] = path, n, true
	return n
}

// change does one of the calls of a profile that is there, as far as it has no error.
func (m model) change(what, name string, n int) (int, api.Errno) {
	gens, now := m.gens[name], m.now[name]
	_, has := gens[n]
	switch {
	case gens == nil:
		return 0, api.ErrNone
	case what == "Back":
		older := slices.DeleteFunc(slices.Collect(maps.Keys(gens)), func(k int) bool { return k >= now })
		if len(older) == 0 {
			return 0, api.ErrName
		}
		m.now[name] = slices.Max(older)
		return m.now[name], api.OK
	case what == "Old":
		m.gens[name] = map[int]string{now: gens[now]}
		return len(gens) - 1, api.OK
	case !has:
		return 0, api.ErrName
	case what == "Switch":
		m.now[name] = n
	case n == now:
		return 0, api.ErrBusy
	default:
		delete(gens, n)
	}
	return 0, api.OK
}

// pair is a store on a device, and what the document says of it.
type pair struct {
	*testing.T
	dice  samples.Dice
	d     *sector.Device
	b     *valid.DB
	was   model
	now   model // what there is instead, if the call that was cut is done
	dead  bool
	paths []string // that are valid
	met   map[string]int
}

// tree: the tree of a model.
func (x *pair) tree(m model) api.Tree {
	db, _ := x.b.FS().At("db")
	store, _ := x.b.FS().At("store")
	return m.whole(db, store)
}

// does: the error of a change that is right.
func (x *pair) does(now model) api.Errno {
	if x.dead || !x.d.On() {
		return api.ErrCrash
	}
	if p, _ := nar.Write(x.tree(now)); len(p) > x.b.FS().Room() {
		return api.ErrFull
	}
	return api.OK
}

// done holds a call to what it must answer.
func (x *pair) done(what string, now model, n, wantN int, e, want api.Errno) {
	x.Helper()
	x.met[what+" "+strconv.Itoa(int(e))]++
	if e == api.ErrCrash && want == api.OK && !x.d.On() {
		x.now = now
		return
	}
	if want != api.OK {
		wantN = 0
	}
	numbered(x.T, what, n, e, wantN, want)
	if e == api.OK {
		x.was, x.now = now, now
	}
}

// name: any name.
func (x *pair) name() string {
	return []string{"p", "q", "now", "a b"}[min(3, x.dice.Roll(14)/4)]
}

// path: any path.
func (x *pair) path() string {
	if x.dice.Roll(12) == 0 {
		return none
	}
	return x.paths[x.dice.Roll(len(x.paths))]
}

// set: one generation more, or a root.
func (x *pair) set(root bool) {
	name, path := x.name(), x.path()
	if root && x.dice.Roll(3) == 0 {
		path = ""
	}
	now, n, want := x.was.copied(), 0, api.OK
	switch {
	case name == "a b":
		want = api.ErrText
	case path == none:
		want = api.ErrName
	case !root:
		n = now.set(name, path)
	case path != "":
		now.roots[name], now.dirs[1] = path, true
	case now.roots[name] == "":
		want = api.ErrNone
	default:
		delete(now.roots, name)
	}
	if want == api.OK {
		want = x.does(now)
	}
	if root {
		x.done("Root", now, 0, 0, profile.Root(x.b, name, path), want)
		return
	}
	got, e := profile.Set(x.b, name, path)
	x.done("Set", now, got, n, e, want)
}

// change: something else is done with a profile.
func (x *pair) change() {
	what, name, n := []string{"Switch", "Back", "Drop", "Old"}[x.dice.Roll(4)], x.name(), x.dice.Roll(14)
	now, wantN, want := x.was.copied(), 0, api.ErrText
	if name != "a b" {
		wantN, want = now.change(what, name, n)
	}
	if want == api.OK {
		want = x.does(now)
	}
	got, e := 0, api.OK
	switch what {
	case "Switch":
		e = profile.Switch(x.b, name, n)
	case "Back":
		got, e = profile.Back(x.b, name)
	case "Drop":
		e = profile.Drop(x.b, name, n)
	default:
		got, e = profile.Old(x.b, name)
	}
	x.done(what, now, got, wantN, e, want)
}

// fall: the power goes off and on.
func (x *pair) fall() {
	fall := x.dice.Fall(x.d.Way())
	is(x.T, "Restart", x.d.Restart(fall.Keep, fall.Torn, fall.Cut), api.OK)
	x.dead = true
}

// open: the power goes on, and all is opened anew.
func (x *pair) open() {
	x.fall()
	b, e := samples.Stored(x.d)
	is(x.T, "Stored", e, api.OK)
	x.b = b
	if got := b.FS().Tree(); !tree.Same(got, x.tree(x.was)) && tree.Same(got, x.tree(x.now)) {
		x.met["done"]++
		x.was = x.now
	}
	x.now, x.dead = x.was, false
}

// event: anything is done.
func (x *pair) event() {
	x.Helper()
	switch k := x.dice.Roll(24); {
	case x.dead && k < 8:
		x.open()
	case k < 8:
		x.set(false)
	case k < 12:
		x.set(true)
	case k < 20:
		x.change()
	case k == 20:
		is(x.T, "Arm", x.d.Arm(x.dice.Roll(30)), api.OK)
	case k == 21:
		x.fall()
	default:
		x.open()
	}
	x.dead = x.dead || !x.d.On()
	x.told(x.name())
}

// told holds what is told to what must be.
func (x *pair) told(name string) {
	x.Helper()
	if got := x.b.FS().Tree(); !tree.Same(got, x.tree(x.was)) {
		x.Fatalf("there is %q, and not %q", tree.Paths(got), tree.Paths(x.tree(x.was)))
	}
	var all []string
	for _, l := range x.was.gens {
		all = append(all, slices.Collect(maps.Values(l))...)
	}
	all = append(all, slices.Collect(maps.Values(x.was.roots))...)
	slices.Sort(all)
	rooted(x.T, x.b, slices.Compact(all)...)
	if gens := x.was.gens[name]; gens != nil {
		var want []string
		for _, n := range slices.Sorted(maps.Keys(gens)) {
			want = append(want, strconv.Itoa(n)+" "+gens[n])
		}
		lists(x.T, x.b, name, x.was.now[name], want...)
	}
}

// TestP7_AsTold holds profiles and roots to the document at many events: what they keep stays, whatever the power does.
func TestP7_AsTold(t *testing.T) {
	dice := samples.Dice(19)
	met := map[string]int{}
	for range 60 {
		d, b := bare(t, 30+dice.Roll(40))
		empty := model{map[string]int{}, map[string]map[int]string{}, map[string]string{}, [2]bool{}}
		x := &pair{t, samples.Dice(dice.Roll(1 << 20)), d, b, empty, empty, false, []string{aPath, bPath, cPath}, met}
		for range 150 {
			x.event()
		}
	}
	for _, what := range []string{
		"Set 0", "Set 4", "Set 9", "Set 14", "Set 15", "Root 0", "Root 4", "Root 6", "Root 9", "Root 14", "Root 15",
		"Switch 0", "Switch 4", "Switch 6", "Switch 9", "Switch 14", "Back 0", "Back 4", "Back 6", "Back 9", "Back 14",
		"Drop 0", "Drop 4", "Drop 6", "Drop 9", "Drop 14", "Drop 17", "Old 0", "Old 4", "Old 6", "Old 14", "done",
	} {
		if met[what] < 5 {
			t.Errorf("an event and its answer, %s, were met only %d times of %v", what, met[what], met)
		}
	}
}
