package valid_test

import (
	"maps"
	"slices"
	"strconv"
	"testing"

	"staddle/api"
	"staddle/nar"
	"staddle/samples"
	"staddle/sector"
	"staddle/tree"
	"staddle/valid"
)

// anyPath: one of few paths, now and then none.
func anyPath(dice *samples.Dice) string {
	if dice.Roll(50) == 0 {
		return "x"
	}
	return pathOf(dice.Roll(8), string(rune('a'+dice.Roll(2))))
}

// anyThing: a path with a tree, of few for each path, and references, most of them among some paths; now and then something is wrong with it.
func anyThing(t *testing.T, dice *samples.Dice, path string, among []string) thing {
	t.Helper()
	seed := samples.Dice(len(path)*1000 + int(path[len(path)-1])*100 + dice.Roll(8)/7)
	x := seed.Tree(2)
	var refs []string
	for range dice.Roll(3) {
		if dice.Roll(8) == 0 {
			refs = append(refs, anyPath(dice))
		} else {
			refs = append(refs, among[dice.Roll(len(among))])
		}
	}
	info, e := valid.Make(path, x, refs, []string{"", pathOf(9, "d.drv")}[dice.Roll(2)])
	if e != api.OK {
		sum, size, _ := nar.Sum(x)
		info = api.Info{Path: path, Sum: sum, Size: size, Refs: refs}
	}
	switch dice.Roll(40) {
	case 0:
		info.Sum[dice.Roll(32)] ^= 1
	case 1:
		info.Size += 8
	case 2:
		x = file("another")
	case 3:
		x.Names = append(x.Names, "a")
	case 4:
		info.Size = -1
	case 5:
		info.From = "x"
	}
	return thing{info, x}
}

// pair is paths on a device, and what the document says of them.
type pair struct {
	*testing.T
	d     *sector.Device
	b     *valid.DB
	was   map[string]thing
	now   map[string]thing // what there is instead, if the call that was cut is done
	other int              // how many directories stand beside those of the paths
	next  int              // and how many then
	dead  bool
	met   map[string]int
}

// fault: what is at fault with one of some things.
func (x *pair) fault(one thing, l []thing) api.Errno {
	p, e := nar.Write(one.tree)
	if e != api.OK {
		return e
	}
	if _, e := valid.Encode(one.Info); e != api.OK {
		return e
	}
	if made, _ := valid.Make(one.Path, one.tree, nil, ""); made.Sum != one.Sum || len(p) != one.Size {
		return api.ErrSum
	}
	for _, ref := range one.Refs {
		_, ok := x.was[ref]
		if !ok && !slices.ContainsFunc(l, func(y thing) bool { return y.Path == ref }) {
			return api.ErrName
		}
	}
	if y, ok := x.was[one.Path]; ok && (y.Sum != one.Sum || !slices.Equal(y.Refs, one.Refs)) {
		return api.ErrExists
	}
	return api.OK
}

// reaches: does one of some things refer to a path, by way of others too?
func reaches(l []thing, from, to string, left int) bool {
	for _, x := range l {
		if x.Path != from || left == 0 {
			continue
		}
		for _, ref := range x.Refs {
			if ref != from && (ref == to || reaches(l, ref, to, left-1)) {
				return true
			}
		}
	}
	return false
}

// register: what Register must answer, and what is valid behind it.
func (x *pair) register(l []thing) (map[string]thing, api.Errno) {
	now := maps.Clone(x.was)
	met := map[string]int{}
	for _, one := range l {
		if met[one.Path]++; met[one.Path] > 1 {
			return nil, api.ErrExists
		}
	}
	for _, one := range l {
		if e := x.fault(one, l); e != api.OK {
			return nil, e
		}
		if _, ok := x.was[one.Path]; !ok {
			now[one.Path] = one
		}
	}
	if len(now) == len(x.was) {
		return now, api.OK
	}
	for _, one := range l {
		if reaches(l, one.Path, one.Path, len(l)) {
			return nil, api.ErrLoop
		}
	}
	return now, x.does(now, x.other)
}

// remove: what Remove must answer, and what is valid behind it.
func (x *pair) remove(path string) (map[string]thing, api.Errno) {
	if path == "x" {
		return nil, api.ErrText
	}
	if _, ok := x.was[path]; !ok {
		return nil, api.ErrNone
	}
	for _, y := range x.was {
		if y.Path != path && slices.Contains(y.Refs, path) {
			return nil, api.ErrBusy
		}
	}
	now := maps.Clone(x.was)
	delete(now, path)
	return now, x.does(now, x.other)
}

// does: what the tree below must answer.
func (x *pair) does(now map[string]thing, other int) api.Errno {
	if x.dead || !x.d.On() {
		return api.ErrCrash
	}
	if p, _ := nar.Write(whole(now, other)); len(p) > (x.d.Len()-2)/2*api.Sector-32 {
		return api.ErrFull
	}
	return api.OK
}

// whole: the tree in which some things stand, and some directories beside them.
func whole(l map[string]thing, other int) api.Tree {
	db, store := dir(), dir()
	for _, path := range slices.Sorted(maps.Keys(l)) {
		db.Names, db.Kids = append(db.Names, path), append(db.Kids, file(written(l[path].Info)))
		store.Names, store.Kids = append(store.Names, path), append(store.Kids, l[path].tree)
	}
	t := dir("db", db, "store", store)
	for i := range other {
		t.Names, t.Kids = append(t.Names, "x"+strconv.Itoa(i)), append(t.Kids, dir())
	}
	return t
}

// event: anything is done.
func (x *pair) event(dice *samples.Dice) {
	x.Helper()
	switch kind := dice.Roll(20); {
	case kind < 10:
		var paths []string
		for range 1 + dice.Roll(4)*dice.Roll(2) {
			paths = append(paths, anyPath(dice))
		}
		var l []thing
		for _, path := range paths {
			l = append(l, anyThing(x.T, dice, path, append(slices.Sorted(maps.Keys(x.was)), paths...)))
		}
		now, want := x.register(l)
		x.done("Register", register(x.b, l...), want, now, x.other)
	case kind < 14:
		path := anyPath(dice)
		now, want := x.remove(path)
		x.done("Remove", x.b.Remove(path), want, now, x.other)
	case kind < 16:
		other := 1 - x.other
		e := mkdir("x0")
		if other == 0 {
			e = drop("x0")
		}
		want := x.does(x.was, other)
		x.done("Apply", x.b.Apply([]api.Edit{e}), want, x.was, other)
	case kind == 16:
		is(x.T, "Arm", x.d.Arm(dice.Roll(16)), api.OK)
	case kind == 17 && dice.Roll(2) == 0:
		x.fall(dice)
	default:
		x.open(dice)
	}
	x.dead = x.dead || !x.d.On()
	x.told(dice)
}

// done holds what a call answered to what it must answer; if it went well, that is what there is.
func (x *pair) done(what string, e, want api.Errno, now map[string]thing, other int) {
	x.Helper()
	x.met[what+" "+strconv.Itoa(int(e))]++
	if want == api.OK && e == api.ErrCrash && !x.d.On() && !x.dead {
		x.now, x.next, want = now, other, api.ErrCrash
	}
	is(x.T, what, e, want)
	// What goes well behind a fall has changed nothing; what was cut there may still be done.
	if e == api.OK && !x.dead {
		x.was, x.now, x.other, x.next = now, now, other, other
	}
}

// told holds what is told to what must be.
func (x *pair) told(dice *samples.Dice) {
	x.Helper()
	if got, want := x.b.FS().Tree(), whole(x.was, x.other); !tree.Same(got, want) {
		x.Fatalf("there is %q, and not %q", tree.Paths(got), tree.Paths(want))
	}
	if l := x.b.Verify(); len(l) > 0 {
		x.Fatalf("Verify = %v", l)
	}
	if l := x.b.List(); !slices.Equal(l, slices.Sorted(maps.Keys(x.was))) {
		x.Fatalf("List = %v", l)
	}
	path := anyPath(dice)
	y, ok := x.was[path]
	info, e := x.b.Info(path)
	if (e == api.OK) != ok || x.b.Is(path) != ok || !sameInfo(info, y.Info) {
		x.Fatalf("Info(%s) = %v, %d", path, info, e)
	}
	var users []string
	for _, one := range x.was {
		if one.Path != path && slices.Contains(one.Refs, path) {
			users = append(users, one.Path)
		}
	}
	slices.Sort(users)
	if l := x.b.Users(path); !slices.Equal(l, users) {
		x.Fatalf("Users(%s) = %v, and not %v", path, l, users)
	}
	for _, one := range x.b.Closure([]string{path}) {
		for _, ref := range x.was[one].Refs {
			if _, ok := slices.BinarySearch(x.b.Closure([]string{path}), ref); !ok {
				x.Fatalf("Closure(%s) lacks %s", path, ref)
			}
		}
	}
}

// fall: the power goes off and on.
func (x *pair) fall(dice *samples.Dice) {
	x.Helper()
	fall := dice.Fall(x.d.Way())
	is(x.T, "Restart", x.d.Restart(fall.Keep, fall.Torn, fall.Cut), api.OK)
	x.dead = true
}

// open: the power goes on, and all is opened anew.
func (x *pair) open(dice *samples.Dice) {
	x.Helper()
	x.fall(dice)
	x.b = opened(x.T, mounted(x.T, x.d))
	if got := x.b.FS().Tree(); !tree.Same(got, whole(x.was, x.other)) && tree.Same(got, whole(x.now, x.next)) {
		x.met["done"]++
		x.was, x.other = x.now, x.next
	}
	x.now, x.next, x.dead = x.was, x.other, false
}

// TestP4_AsTold holds paths to the document at many events: each is what it says, whatever the power does.
func TestP4_AsTold(t *testing.T) {
	dice := samples.Dice(17)
	met := map[string]int{}
	for range 100 {
		d, b := fresh(t, 24+dice.Roll(60))
		none := map[string]thing{}
		x := &pair{t, d, b, none, none, 0, 0, false, met}
		for range 150 {
			x.event(&dice)
		}
	}
	for _, what := range []string{
		"Register 0", "Register 3", "Register 7", "Register 9", "Register 10", "Register 14", "Register 15", "Register 16",
		"Remove 0", "Remove 4", "Remove 6", "Remove 14", "Remove 17", "Apply 0", "Apply 14", "done",
	} {
		if met[what] < 20 {
			t.Errorf("an event and its answer, %s, were met only %d times of %v", what, met[what], met)
		}
	}
}
