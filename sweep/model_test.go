package sweep_test

import (
	"maps"
	"slices"
	"strconv"
	"testing"

	"staddle/api"
	"staddle/profile"
	"staddle/realise"
	"staddle/samples"
	"staddle/sector"
	"staddle/sweep"
	"staddle/valid"
)

// pair is a store on a device, and what must be kept of it.
type pair struct {
	*testing.T
	dice samples.Dice
	d    *sector.Device
	b    *valid.DB
	met  map[string]int
}

// all: what is known of all valid paths.
func (x *pair) all() map[string]api.Info {
	l := map[string]api.Info{}
	for _, path := range x.b.List() {
		l[path], _ = x.b.Info(path)
	}
	return l
}

// any: one of the valid paths, now and then another.
func (x *pair) any() string {
	l := x.b.List()
	if len(l) == 0 || x.dice.Roll(20) == 0 {
		return []string{samples.Path("n", "n.drv"), samples.Path("n", "n"), "x"}[x.dice.Roll(3)]
	}
	return l[x.dice.Roll(len(l))]
}

// some: some of them, some of these more than once.
func (x *pair) some(n int) []string {
	var l []string
	for range x.dice.Roll(n + 1) {
		l = append(l, x.any())
	}
	return l
}

// keep: any paths, and what is kept besides.
func (x *pair) keep() sweep.Keep {
	k := keeps[x.dice.Roll(len(keeps))]
	k.Paths = x.some(2)
	return k
}

// live: what must be kept: all is gone through again and again, till nothing is met that isn't kept yet.
func (x *pair) live(k sweep.Keep) []string {
	all := x.all()
	outs := map[string]string{}
	for path := range all {
		outs[path], _ = realise.Out(x.b, path)
	}
	live := map[string]bool{}
	for _, path := range append(profile.Roots(x.b), k.Paths...) {
		_, live[path] = all[path]
	}
	for more := true; more; {
		more = false
		for path, info := range all {
			by := live[path]
			for other, user := range all {
				by = by || live[other] && (slices.Contains(user.Refs, path) || k.Drvs && user.From == path || k.Outs && outs[other] == path)
			}
			if by && !live[info.Path] {
				live[path], more = true, true
			}
		}
	}
	maps.DeleteFunc(live, func(_ string, is bool) bool { return !is })
	return slices.Sorted(maps.Keys(live))
}

// dead: what must go, in its order: of those that are left the least goes last to which nothing that is left leads.
func (x *pair) dead(live []string) []string {
	left := x.all()
	for _, path := range live {
		delete(left, path)
	}
	var l []string
	for len(left) > 0 {
		for _, path := range slices.Sorted(maps.Keys(left)) {
			if !slices.ContainsFunc(left[path].Refs, func(ref string) bool { _, ok := left[ref]; return ok && ref != path }) {
				l = append(l, path)
				delete(left, path)
				break
			}
		}
	}
	slices.Reverse(l)
	return l
}

// add: any path more, by any way.
func (x *pair) add() {
	name, refs := "n"+strconv.Itoa(x.dice.Roll(3)), x.some(3)
	slices.Sort(refs)
	refs = slices.Compact(refs)
	var drvs []string
	for _, path := range refs {
		if _, e := realise.Get(x.b, path); e == api.OK {
			drvs = append(drvs, path)
		}
	}
	switch k := x.dice.Roll(10); {
	case k < 2:
		realise.AddTree(x.b, name, file(strconv.Itoa(x.dice.Roll(50))))
	case k < 6:
		d := api.Drv{Name: name, Drvs: drvs, Sources: refs, Recipe: "write f " + strconv.Itoa(x.dice.Roll(5))}
		for _, path := range drvs {
			out, _ := realise.Out(x.b, path)
			d.Recipe += "\nappend f " + out
		}
		if x.dice.Roll(4) == 0 {
			d = api.Drv{Name: name, Recipe: "write f " + strconv.Itoa(x.dice.Roll(3)) + "\nwrite f x", Fixed: samples.Digits(dir("f", file("x")))}
		}
		realise.Add(x.b, d)
	default:
		signs := "0123456789abcdfghijklmnpqrsvwxyz"
		i := x.dice.Roll(len(signs))
		samples.Keep(x.b, samples.Path(signs[i:i+1], name), file(name), x.any(), refs...)
	}
}

// root: any path is kept, or one is kept no more.
func (x *pair) root() {
	switch name := "r" + strconv.Itoa(x.dice.Roll(2)); x.dice.Roll(6) {
	case 0, 1:
		profile.Root(x.b, name, x.any())
	case 2:
		profile.Root(x.b, name, "")
	case 3:
		profile.Set(x.b, name, x.any())
	case 4:
		profile.Back(x.b, name)
	default:
		profile.Old(x.b, name)
	}
}

// collect holds Collect to what it must do, whatever the power does in it.
func (x *pair) collect() {
	x.Helper()
	k, limit := x.keep(), x.dice.Roll(1000)-300
	live := x.live(k)
	dead, all := x.dead(live), x.all()
	if x.dice.Roll(2) == 0 {
		is(x.T, "Arm", x.d.Arm(1+x.dice.Roll(20)), api.OK)
	}
	l, bytes, e := sweep.Collect(x.b, k, limit)
	x.met["Collect "+strconv.Itoa(int(e))]++
	n, size := 0, 0
	for n < len(dead) && (limit < 0 || size < limit) && (e == api.OK || n < len(l)) {
		size += all[dead[n]].Size
		n++
	}
	if (e != api.OK && x.d.On()) || len(l) != n || bytes != size || !slices.Equal(l, dead[:n]) {
		x.Fatalf("Collect(%v, %d) = %v, %d, %d of %v", k, limit, l, bytes, e, dead)
	}
	x.reopen()
	left := len(all) - len(x.b.List())
	if left == n+1 && e == api.ErrCrash {
		x.met["done"]++
		n++
	}
	now := x.all()
	for i, path := range dead {
		if _, ok := now[path]; ok == (i < n) {
			x.Fatalf("behind a fall of the power %s is valid, or not", path)
		}
	}
	if left != n || len(x.b.Verify()) > 0 {
		x.Fatalf("%d are gone, and not %d", left, n)
	}
	x.met[min3(n)+" gone"]++
}

// min3: a small number in words.
func min3(n int) string {
	return []string{"none", "one", "two", "more"}[min(n, 3)]
}

// reopen: the power goes off and on, and all is opened anew.
func (x *pair) reopen() {
	fall := x.dice.Fall(x.d.Way())
	is(x.T, "Restart", x.d.Restart(fall.Keep, fall.Torn, fall.Cut), api.OK)
	is(x.T, "Arm", x.d.Arm(0), api.OK)
	b, e := samples.Stored(x.d)
	is(x.T, "Stored", e, api.OK)
	x.b = b
}

// event: anything is done.
func (x *pair) event() {
	x.Helper()
	switch k := x.dice.Roll(20); {
	case k < 10:
		x.add()
	case k < 14:
		if _, _, e := realise.Realise(x.b, x.any()); e == api.OK {
			x.met["Realise"]++
		}
	case k < 18:
		x.root()
	default:
		x.collect()
	}
	k := x.keep()
	live := x.live(k)
	dead := x.dead(live)
	partsAre(x.T, x.b, k, live, dead)
	if len(live) > 2 && len(dead) > 2 {
		x.met["both"]++
	}
}

// TestP7_AsTold holds the collector to the document at many events: what is kept stays, and all else goes.
func TestP7_AsTold(t *testing.T) {
	dice := samples.Dice(20)
	met := map[string]int{}
	for range 25 {
		d, b := fresh(t, 60+dice.Roll(200))
		x := &pair{t, samples.Dice(dice.Roll(1 << 20)), d, b, met}
		for range 60 {
			x.event()
		}
	}
	for _, what := range []string{"Collect 0", "Collect 14", "none gone", "one gone", "two gone", "more gone", "both", "Realise", "done"} {
		if met[what] < 5 {
			t.Errorf("%s was met only %d times of %v", what, met[what], met)
		}
	}
}
