package fsys_test

import (
	"strconv"
	"testing"

	"staddle/api"
	"staddle/edit"
	"staddle/fsys"
	"staddle/nar"
	"staddle/samples"
	"staddle/sector"
)

// anyPath: a path of few names, now and then none.
func anyPath(dice *samples.Dice) string {
	path := string(rune('a' + dice.Roll(4)))
	for range dice.Roll(3) {
		path += "/" + string(rune('a'+dice.Roll(3)))
	}
	if dice.Roll(60) == 0 {
		return path + "/"
	}
	return path
}

// anyEdits: edits that go well, or don't.
func anyEdits(dice *samples.Dice) []api.Edit {
	var l []api.Edit
	for range dice.Roll(4) {
		switch dice.Roll(5) {
		case 0:
			l = append(l, mkdir(anyPath(dice)))
		case 1:
			l = append(l, move(anyPath(dice), anyPath(dice)))
		case 2:
			l = append(l, drop(anyPath(dice)))
		default:
			l = append(l, put(anyPath(dice), dice.Tree(2)))
		}
	}
	if dice.Roll(20) == 0 && len(l) > 0 {
		// Edit.Apply passes over it.
		l[0].From = anyPath(dice)
	}
	return l
}

// pair is a tree on a device, and what the document says of it.
type pair struct {
	*testing.T
	d    *sector.Device
	f    *fsys.FS
	was  api.Tree
	now  api.Tree // what there is instead, if the Do that was cut is done
	room int
	dead bool // the power was off
	met  map[string]int
}

// want: what a Do must answer, if the power doesn't go off in it, and the tree behind it.
func (x *pair) want(l []api.Edit) (api.Tree, api.Errno) {
	now, e := edit.Apply(x.was, l)
	if x.dead || !x.d.On() {
		return x.was, api.ErrCrash
	}
	if e != api.OK {
		return x.was, e
	}
	for _, one := range l {
		if !edit.Form(one) {
			return x.was, api.ErrForm
		}
	}
	if p, _ := nar.Write(now); len(p) > x.room {
		return x.was, api.ErrFull
	}
	return now, api.OK
}

// event: anything is done.
func (x *pair) event(dice *samples.Dice) {
	x.Helper()
	switch kind := dice.Roll(16); {
	case kind < 12:
		l := anyEdits(dice)
		now, want := x.want(l)
		e := x.f.Do(l)
		x.met["Do "+strconv.Itoa(int(e))]++
		if want == api.OK && !x.d.On() {
			want = api.ErrCrash
			x.now = now
		}
		is(x.T, "Do", e, want)
		if e == api.OK {
			x.was, x.now = now, now
		}
	case kind == 12:
		is(x.T, "Arm", x.d.Arm(dice.Roll(12)), api.OK)
	case kind == 13 && dice.Roll(2) == 0:
		x.fall(dice)
	default:
		x.open(dice)
	}
	x.dead = x.dead || !x.d.On()
	if x.f.On() == x.dead {
		x.Fatal("On isn't as it should be")
	}
	holds(x.T, x.f, x.was)
}

// fall: the power goes off and on.
func (x *pair) fall(dice *samples.Dice) {
	x.Helper()
	fall := dice.Fall(x.d.Way())
	is(x.T, "Restart", x.d.Restart(fall.Keep, fall.Torn, fall.Cut), api.OK)
	x.dead = true
}

// open: the tree is opened anew, if the power is on.
func (x *pair) open(dice *samples.Dice) {
	x.Helper()
	for range 4 {
		f, e := fsys.Open(x.d)
		x.met["Open "+strconv.Itoa(int(e))]++
		if e == api.OK {
			got := either(x.T, f, x.was, x.now)
			x.f, x.was, x.now, x.dead = f, got, got, false
			return
		}
		is(x.T, "Open", e, api.ErrCrash)
		if x.d.On() {
			x.Fatal("Open answers that the power is off")
		}
		x.fall(dice)
	}
}

// TestP16_2_AsTold holds a tree to the document at many events.
func TestP16_2_AsTold(t *testing.T) {
	dice := samples.Dice(16)
	met := map[string]int{}
	for range 200 {
		n := 6 + dice.Roll(20)
		d, f := fresh(t, n)
		x := &pair{t, d, f, dir(), dir(), (n-2)/2*api.Sector - 32, false, met}
		for range 200 {
			x.event(&dice)
		}
	}
	for _, what := range []string{"Do 0", "Do 3", "Do 4", "Do 6", "Do 7", "Do 8", "Do 10", "Do 14", "Do 15", "Open 0", "Open 14"} {
		if met[what] < 50 {
			t.Errorf("an event and its answer, %s, were met only %d times of %v", what, met[what], met)
		}
	}
}
