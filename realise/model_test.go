package realise_test

import (
	"bytes"
	"maps"
	"slices"
	"strconv"
	"strings"
	"testing"

	"staddle/api"
	"staddle/drv"
	"staddle/naming"
	"staddle/nar"
	"staddle/realise"
	"staddle/recipe"
	"staddle/samples"
	"staddle/sector"
	"staddle/tree"
	"staddle/valid"
)

// thing is a path with its tree.
type thing struct {
	api.Info
	tree api.Tree
}

// model is the paths that are valid, as the document has it.
type model map[string]thing

// get: the derivation of a path.
func (m model) get(path string) (api.Drv, api.Errno) {
	if !naming.Is(path) || !strings.HasSuffix(path, ".drv") {
		return api.Drv{}, api.ErrText
	}
	x, ok := m[path]
	if !ok {
		return api.Drv{}, api.ErrNone
	}
	d, e := drv.Read(string(x.tree.Data))
	if e != api.OK {
		return api.Drv{}, e
	}
	if own, _ := drv.Path(d); own != path {
		return api.Drv{}, api.ErrSum
	}
	return d, api.OK
}

// needed: all that a derivation needs, and itself, some of them more than once.
func (m model) needed(path string) ([]string, api.Errno) {
	var all []string
	for level := []string{path}; len(level) > 0; {
		var next []string
		for _, path := range level {
			d, e := m.get(path)
			if e != api.OK {
				return nil, e
			}
			next = append(next, d.Drvs...)
		}
		all = append(all, level...)
		slices.Sort(next)
		level = slices.Compact(next)
	}
	return all, api.OK
}

// sums: the digests of what a derivation needs.
func (m model) sums(d api.Drv) [][32]byte {
	var l [][32]byte
	for _, path := range d.Drvs {
		need, _ := m.get(path)
		sum, _ := drv.Modulo(need, m.sums(need))
		l = append(l, sum)
	}
	return l
}

// out: the path of what a derivation makes, of which all is there that it needs.
func (m model) out(path string) string {
	d, _ := m.get(path)
	out, _ := drv.Out(d, m.sums(d))
	return out
}

// has: is it valid?
func (m model) has(path string) bool {
	_, ok := m[path]
	return ok
}

// marks: those that must be done, to do one.
func (m model) marks(path string, must map[string]bool) {
	if must[path] || m.has(m.out(path)) {
		return
	}
	must[path] = true
	d, _ := m.get(path)
	for _, need := range d.Drvs {
		m.marks(need, must)
	}
}

// plan: what Plan must answer.
func (m model) plan(path string) ([]string, api.Errno) {
	left, e := m.needed(path)
	if e != api.OK {
		return nil, e
	}
	must := map[string]bool{}
	m.marks(path, must)
	slices.Sort(left)
	left = slices.Compact(left)
	var l []string
	for len(left) > 0 {
		i := slices.IndexFunc(left, func(path string) bool {
			d, _ := m.get(path)
			return !slices.ContainsFunc(d.Drvs, func(need string) bool { return slices.Contains(left, need) })
		})
		if must[left[i]] {
			l = append(l, left[i])
		}
		left = slices.Delete(left, i, i+1)
	}
	return l, api.OK
}

// reads: the paths that a derivation may read, rising.
func (m model) reads(d api.Drv) []string {
	todo := slices.Clone(d.Sources)
	for _, path := range d.Drvs {
		todo = append(todo, m.out(path))
	}
	met := map[string]bool{}
	for len(todo) > 0 {
		path := todo[0]
		todo = todo[1:]
		if x, ok := m[path]; ok && !met[path] {
			met[path] = true
			todo = append(todo, x.Refs...)
		}
	}
	return slices.Sorted(maps.Keys(met))
}

// tree: what a derivation's recipe makes.
func (m model) tree(d api.Drv, out string) (api.Tree, api.Errno) {
	var in []api.Input
	for _, path := range m.reads(d) {
		in = append(in, api.Input{Path: path, Tree: m[path].tree})
	}
	steps, _, e := recipe.Parse(d.Recipe)
	if e != api.OK {
		return api.Tree{}, e
	}
	x, _, e := recipe.Run(steps, out, in)
	return x, e
}

// stands: do some bytes stand in a tree?
func stands(x api.Tree, p string) bool {
	if bytes.Contains(x.Data, []byte(p)) {
		return true
	}
	for i, kid := range x.Kids {
		if strings.Contains(x.Names[i], p) || stands(kid, p) {
			return true
		}
	}
	return false
}

// make: what a derivation makes.
func (m model) make(path string) (thing, api.Errno) {
	d, _ := m.get(path)
	own := m.out(path)
	out := own
	if d.Fixed != "" {
		out = "@out@"
	}
	x, e := m.tree(d, out)
	if e != api.OK {
		return thing{}, e
	}
	var refs []string
	for _, other := range append(m.reads(d), own) {
		if stands(x, other[:32]) {
			refs = append(refs, other)
		}
	}
	info, _ := valid.Make(own, x, refs, path)
	if d.Fixed != "" && !strings.Contains(written(info), "\nsum "+d.Fixed+"\n") {
		return thing{}, api.ErrSum
	}
	if d.Fixed != "" && len(refs) > 0 {
		return thing{}, api.ErrKind
	}
	return thing{info, x}, api.OK
}

// written: the text of what is known.
func written(x api.Info) string {
	s, _ := valid.Encode(x)
	return s
}

// whole: the tree in which all stands.
func (m model) whole() api.Tree {
	db, store := dir(), dir()
	for _, path := range slices.Sorted(maps.Keys(m)) {
		db.Names, db.Kids = append(db.Names, path), append(db.Kids, file(written(m[path].Info)))
		store.Names, store.Kids = append(store.Names, path), append(store.Kids, m[path].tree)
	}
	return dir("db", db, "store", store)
}

// pair is a store on a device, and what the document says of it.
type pair struct {
	*testing.T
	dice  samples.Dice
	d     *sector.Device
	b     *valid.DB
	was   model
	now   model    // what there is instead, if the step that was cut is done
	known []string // paths that are valid, or once were
	dead  bool
	met   map[string]int
}

// does: what there is behind a step that changes something, or its error.
func (x *pair) does(now model) (model, api.Errno) {
	if x.dead || !x.d.On() {
		return nil, api.ErrCrash
	}
	if p, _ := nar.Write(now.whole()); len(p) > x.b.FS().Room() {
		return nil, api.ErrFull
	}
	return now, api.OK
}

// register: what there is behind one path that is made valid.
func (x *pair) register(m model, y thing) (model, api.Errno) {
	for _, ref := range y.Refs {
		if ref != y.Path && !m.has(ref) {
			return nil, api.ErrName
		}
	}
	if old, ok := m[y.Path]; ok {
		if old.Sum != y.Sum || !slices.Equal(old.Refs, y.Refs) {
			return nil, api.ErrExists
		}
		return m, api.OK
	}
	now := maps.Clone(m)
	now[y.Path] = y
	return x.does(now)
}

// any: one of some paths, now and then a wrong one.
func (x *pair) any(l []string) string {
	if len(l) == 0 || x.dice.Roll(30) == 0 {
		return []string{"x", "", pathOf("0", "n.drv"), pathOf("0", "n")}[x.dice.Roll(4)]
	}
	return l[x.dice.Roll(len(l))]
}

// derivations: the paths that are known and have a derivation.
func (x *pair) derivations() []string {
	return slices.DeleteFunc(slices.Clone(x.known), func(path string) bool {
		_, e := x.was.needed(path)
		return e != api.OK
	})
}

// word: any word of a recipe.
func (x *pair) word(paths []string) string {
	if k := x.dice.Roll(6); k < 4 {
		return []string{"x", "y", "xy@out@x", "@out@"}[k]
	}
	return x.any(paths)
}

// line: any line of a recipe.
func (x *pair) line(paths []string) string {
	f := "f" + strconv.Itoa(x.dice.Roll(2))
	switch k := x.dice.Roll(40); {
	case k == 0:
		return "fail x"
	case k == 1:
		return "junk"
	case k < 4:
		return "append f0 " + x.word(paths)
	case k < 6:
		return "exec f0"
	case k < 9:
		return "link l \"" + x.word(paths) + "\""
	case k < 11:
		return "swap f1 x \"" + x.word(paths) + "\""
	case k < 22 && len(paths) > 0:
		return "copy " + x.any(paths) + ` "" ` + f
	default:
		return "write " + f + " \"" + x.word(paths) + "\""
	}
}

// twin: one of several derivations that all make the same, at one Out.
func (x *pair) twin() api.Drv {
	recipes := []string{"write f0 x", "write f0 y\nwrite f0 x", "link f0 x\nwrite f0 \"x\"", "write f0 \"\"\nappend f0 x", "fail x"}
	return fixed(x.T, made("d0", recipes[x.dice.Roll(len(recipes))]), dir("f0", file("x")))
}

// drv: any derivation, most of them right.
func (x *pair) drv() api.Drv {
	if x.dice.Roll(5) == 0 {
		return x.twin()
	}
	d := api.Drv{Name: "d" + strconv.Itoa(x.dice.Roll(3))}
	var paths []string
	for range x.dice.Roll(4) {
		path := x.any(x.known)
		if l := x.derivations(); x.dice.Roll(2) == 0 && len(l) > 0 {
			path = x.any(l)
		}
		if twin, _ := drv.Path(x.twin()); x.was.has(twin) && x.dice.Roll(3) == 0 {
			path = twin
		}
		if _, e := x.was.needed(path); e != api.OK || x.dice.Roll(10) == 0 {
			d.Sources = append(d.Sources, path)
			paths = append(paths, path)
			if drv.IsPath(path) && x.dice.Roll(3) == 0 {
				d.Drvs = append(d.Drvs, path)
			}
		} else {
			d.Drvs = append(d.Drvs, path)
			paths = append(paths, x.was.out(path))
		}
	}
	for _, l := range []*[]string{&d.Drvs, &d.Sources} {
		if x.dice.Roll(40) > 0 {
			slices.Sort(*l)
			*l = slices.Compact(*l)
		}
	}
	if x.dice.Roll(10) == 0 {
		paths = append(paths, x.known...)
	}
	lines := []string{"write f0 x", "write f1 xyx"}[:x.dice.Roll(3)]
	for range x.dice.Roll(3) {
		lines = append(lines, x.line(paths))
	}
	d.Recipe = strings.Join(lines, "\n")
	if x.dice.Roll(3) == 0 {
		x.fix(&d)
	}
	return d
}

// fix tells ahead what a derivation makes, as far as that can be known, and now and then something else.
func (x *pair) fix(d *api.Drv) {
	y, e := dir(), api.OK
	if _, wrong := drv.Text(*d); wrong == api.OK && !slices.ContainsFunc(d.Drvs, func(path string) bool {
		_, e := x.was.needed(path)
		return e != api.OK
	}) {
		y, e = x.was.tree(*d, "@out@")
	}
	if e != api.OK || x.dice.Roll(6) == 0 {
		y = dir("f0", file("x"))
	}
	d.Fixed = digits(x.T, y)
}

// add: a derivation is added.
func (x *pair) add(d api.Drv) {
	text, want := drv.Text(d)
	own, _ := drv.Path(d)
	now := x.was
	if want == api.OK && slices.ContainsFunc(d.Drvs, func(path string) bool {
		_, e := x.was.get(path)
		return e != api.OK
	}) {
		want = api.ErrName
	}
	if want == api.OK {
		info, _ := valid.Make(own, file(text), slices.Concat(d.Drvs, d.Sources), "")
		now, want = x.register(x.was, thing{info, file(text)})
	}
	path, e := realise.Add(x.b, d)
	x.named(path, own, e)
	x.one("Add", e, now, want)
}

// addTree: a tree is added.
func (x *pair) addTree() {
	names := []string{"s", "s", "s", "t", "t", "t", "s.drv", "s.drv", "a b"}
	name := names[x.dice.Roll(len(names))]
	seed := samples.Dice(x.dice.Roll(20))
	y := seed.Tree(2)
	switch x.dice.Roll(12) {
	case 0:
		y = file(x.any(x.known))
	case 1:
		y.Exec, y.Data = true, nil // no tree, but of a file
	case 2:
		y = x.was[x.any(x.known)].tree
	}
	sum, _, want := nar.Sum(y)
	own, wrong := naming.Make("source", sum, name)
	now := x.was
	if want == api.OK {
		want = wrong
	}
	if want == api.OK {
		info, _ := valid.Make(own, y, nil, "")
		now, want = x.register(x.was, thing{info, y})
	}
	path, e := realise.AddTree(x.b, name, y)
	x.named(path, own, e)
	x.one("AddTree", e, now, want)
}

// foreign: a derivation is valid by another way, so that what it needs may not be.
func (x *pair) foreign() {
	d := x.drv()
	own, e := drv.Path(d)
	if e != api.OK {
		return
	}
	y := textOf(x.T, d)
	info, _ := valid.Make(own, y, nil, "")
	now, want := x.register(x.was, thing{info, y})
	x.known = append(x.known, own)
	x.one("Register", x.b.Register([]api.Info{info}, []api.Tree{y}), now, want)
}

// named holds the path that a call answered to what it must be.
func (x *pair) named(path, own string, e api.Errno) {
	x.Helper()
	if e != api.OK {
		own = ""
	} else {
		x.known = append(x.known, path)
	}
	if path != own {
		x.Fatalf("beside %d stands the path %s, and not %s", e, path, own)
	}
}

// one holds a call of one step to what it must answer.
func (x *pair) one(what string, e api.Errno, now model, want api.Errno) {
	x.Helper()
	states := []model{x.was}
	if want == api.OK {
		states = append(states, now)
	}
	done := 0
	if e == api.OK {
		done = 1
	}
	x.done(what, done, e, states, want)
}

// remove: a path is removed.
func (x *pair) remove(path string) {
	now, want := maps.Clone(x.was), api.OK
	delete(now, path)
	if !naming.Is(path) {
		want = api.ErrText
	} else if !x.was.has(path) {
		want = api.ErrNone
	}
	for _, y := range now {
		if slices.Contains(y.Refs, path) {
			want = api.ErrBusy
		}
	}
	if want == api.OK {
		now, want = x.does(now)
	}
	x.one("Remove", x.b.Remove(path), now, want)
}

// realise: a derivation is done.
func (x *pair) realise(path string) {
	plan, want := x.was.plan(path)
	states := []model{x.was}
	outs := map[string]int{}
	for _, path := range plan {
		m := states[len(states)-1]
		y, e := m.make(path)
		if e == api.OK {
			m, e = x.register(m, y)
		}
		if want = e; e != api.OK {
			break
		}
		if outs[y.Path]++; outs[y.Path] == 2 {
			x.met["two of one Out"]++
		}
		states = append(states, m)
	}
	out, n, e := realise.Realise(x.b, path)
	if e == api.OK && out != x.was.out(path) || e != api.OK && out != "" {
		x.Fatalf("Realise = %q, %d, %d", out, n, e)
	}
	if e != api.OK && n > 0 {
		x.met["some done"]++
	}
	x.done("Realise", n, e, states, want)
	for i := 1; i <= n; i++ {
		for path := range states[i] {
			if !states[i-1].has(path) {
				x.known = append(x.known, path)
			}
		}
	}
}

// done holds what a call answered to what it must answer, and what there is to what must be; states is what there is behind none of its steps, behind the first, and so on.
func (x *pair) done(what string, done int, e api.Errno, states []model, want api.Errno) {
	x.Helper()
	x.met[what+" "+strconv.Itoa(int(e))]++
	if e == api.ErrCrash && !x.dead && !x.d.On() && done+1 < len(states) {
		x.was, x.now = states[done], states[done+1]
		return
	}
	if e != want || done != len(states)-1 {
		x.Fatalf("%s = %d, %d, and not %d, %d", what, done, e, len(states)-1, want)
	}
	x.was = states[done]
	if !x.dead {
		x.now = x.was
	}
}

// fall: the power goes off and on.
func (x *pair) fall() {
	fall := x.dice.Fall(x.d.Way())
	is(x.T, "Restart", x.d.Restart(fall.Keep, fall.Torn, fall.Cut), api.OK)
	x.dead = true
}

// open: the power goes on, and all is opened anew.
func (x *pair) open() {
	x.fall()
	b, e := samples.Stored(x.d)
	is(x.T, "Stored", e, api.OK)
	x.b = b
	if got := b.FS().Tree(); !tree.Same(got, x.was.whole()) && tree.Same(got, x.now.whole()) {
		x.met["done"]++
		x.was = x.now
	}
	x.now, x.dead = x.was, false
}

// event: anything is done.
func (x *pair) event() {
	x.Helper()
	switch k := x.dice.Roll(24); {
	case x.dead && k < 8:
		x.open()
	case k < 3:
		x.addTree()
	case k < 9:
		x.add(x.drv())
	case k < 15:
		path := x.any(x.known)
		if l := x.derivations(); x.dice.Roll(4) > 0 && len(l) > 0 {
			path = x.any(l)
		}
		x.realise(path)
	case k < 20:
		l := x.known
		if x.dice.Roll(2) == 0 {
			l = slices.DeleteFunc(slices.Clone(l), func(path string) bool { return x.was[path].From == "" })
		}
		x.remove(x.any(l))
	case k == 20:
		x.foreign()
	case k == 21:
		is(x.T, "Arm", x.d.Arm(x.dice.Roll(30)), api.OK)
	case k == 22 && x.dice.Roll(3) == 0:
		x.fall()
	default:
		x.open()
	}
	x.dead = x.dead || !x.d.On()
	x.known = x.known[max(0, len(x.known)-30):]
	x.told(x.any(x.known))
}

// told holds what is told to what must be.
func (x *pair) told(path string) {
	x.Helper()
	if got := x.b.FS().Tree(); !tree.Same(got, x.was.whole()) {
		x.Fatalf("there is %q, and not %q", tree.Paths(got), tree.Paths(x.was.whole()))
	}
	d, want := x.was.get(path)
	if got, e := realise.Get(x.b, path); e != want || !sameDrv(got, d) {
		x.Fatalf("Get(%s) = %v, %d, and not %v, %d", path, got, e, d, want)
	}
	plan, want := x.was.plan(path)
	if l, e := realise.Plan(x.b, path); e != want || !slices.Equal(l, plan) {
		x.Fatalf("Plan(%s) = %v, %d, and not %v, %d", path, l, e, plan, want)
	}
	out := ""
	if want == api.OK {
		out = x.was.out(path)
	}
	if got, e := realise.Out(x.b, path); e != want || got != out {
		x.Fatalf("Out(%s) = %s, %d, and not %s, %d", path, got, e, out, want)
	}
	if l := x.b.Verify(); len(l) > 0 {
		x.Fatalf("Verify = %v", l)
	}
}

// TestP4_AsTold holds derivations to the document at many events: what they make is what they say, whatever the power does.
func TestP4_AsTold(t *testing.T) {
	dice := samples.Dice(18)
	met := map[string]int{}
	for range 60 {
		d, b := fresh(t, 60+dice.Roll(200))
		x := &pair{t, samples.Dice(dice.Roll(1 << 20)), d, b, model{}, model{}, nil, false, met}
		for range 150 {
			x.event()
		}
	}
	for _, what := range []string{
		"Add 0", "Add 3", "Add 9", "Add 14", "Add 15", "AddTree 0", "AddTree 3", "AddTree 4", "AddTree 14", "AddTree 15",
		"Realise 0", "Realise 4", "Realise 6", "Realise 8", "Realise 9", "Realise 12", "Realise 14", "Realise 15", "Realise 16", "Remove 0", "Remove 17", "done", "some done", "two of one Out",
	} {
		if met[what] < 5 {
			t.Errorf("an event and its answer, %s, were met only %d times of %v", what, met[what], met)
		}
	}
}
