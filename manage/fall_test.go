package manage_test

import (
	"slices"
	"strings"
	"testing"

	"staddle/api"
	"staddle/manage"
	"staddle/samples"
	"staddle/tree"
)

// scene is a store, what was asked of it ahead, and an event that is cut.
type scene struct {
	sectors int
	rounds  int // how often a tree comes and goes ahead of it
	event   manage.Event
}

// ahead: what was asked ahead of each event.
func ahead(rounds int) []manage.Event {
	l := []manage.Event{
		adds("src", file("x")), makes("[" + appText + " " + bText + "]"), about(manage.Set, "p", bDrv), about(manage.Set, "p", srcPath),
		about(manage.Set, "p", bDrv), of(manage.Build, bDrv), about(manage.Root, "r", srcPath),
	}
	for range rounds {
		l = append(l, about(manage.Root, "s", bPath), about(manage.Root, "s", ""))
	}
	return l
}

// scenes: events of one step and of many, with room for a record left and without.
func scenes(t *testing.T) []scene {
	t.Helper()
	other := fresh(t, 60)
	path := done(t, other, adds("more", dir("m", file(strings.Repeat("m", 300)), "n", link("m")))).Text
	p := done(t, other, of(manage.Export, path)).Data
	var l []scene
	for _, sectors := range []int{70, 84} {
		for rounds := range 3 {
			for _, v := range []manage.Event{
				makes(aText), makes(`map (n: derivation { name = "n"; recipe = "write f ${toString n}"; }) [1 2 3]`),
				makes(`derivation { name = "x"; recipe = "write f ${` + appText + `}${` + aText + `}"; }`),
				of(manage.Build, libDrv), of(manage.Build, appDrv), adds("tree", dir("f", file(strings.Repeat("f", 600)))),
				about(manage.Set, "p", bPath), about(manage.Set, "q", bPath), numbered(manage.Switch, "p", 1), of(manage.Back, "p"),
				numbered(manage.Drop, "p", 1), of(manage.Old, "p"), about(manage.Root, "r", ""), about(manage.Root, "t", bPath),
				numbered(manage.Collect, "", -1), numbered(manage.Collect, "both", -1), numbered(manage.Collect, "", 300),
				{Kind: manage.Import, Data: p},
			} {
				l = append(l, scene{sectors, rounds, v})
			}
		}
	}
	return l
}

// set: a scene's store, and its twin.
func (c scene) set(t *testing.T) (*manage.Store, twin) {
	t.Helper()
	s, w := fresh(t, c.sectors), twinOf(t, c.sectors)
	for _, v := range ahead(c.rounds) {
		does(t, s, v, w.asked(v))
	}
	w.follows(t, s)
	return s, w
}

// falls: ways in which the power comes back, whatever is on its way.
func falls() []manage.Event {
	l := []manage.Event{{Torn: -1}, {Torn: -1, Keep: slices.Repeat([]bool{true}, 200)}}
	dice := samples.Dice(11)
	for _, n := range []int{1, 2, 3, 4, 6, 9, 40} {
		for range 3 {
			fall := dice.Fall(n)
			l = append(l, manage.Event{Keep: fall.Keep, Torn: fall.Torn, Cut: fall.Cut})
		}
	}
	return l
}

// TestP22_3_AllFalls: wherever the power goes off in an event, and in the openings behind it, and whatever is done then of what was on its way, the event is done, or not, whole, or some of its first steps are, and all goes on.
func TestP22_3_AllFalls(t *testing.T) {
	met := map[string]int{}
	all := falls()
	for i, c := range scenes(t) {
		for n := 1; ; n++ {
			s, w := c.set(t)
			steps := w.steps(c.event)
			does(t, s, manage.Event{Kind: manage.Arm, N: n}, manage.Reply{})
			r := s.Do(c.event)
			if r.E == api.OK {
				if want := w.asked(c.event); !same(r, want) {
					t.Fatalf("Do(%+v) = %+v, and not %+v", c.event, r, want)
				}
				reopens(t, s)
				w.follows(t, s)
				break
			}
			k := told(c.event, r)
			if want := w.cut(t, c.event, steps, k); !same(r, want) {
				t.Fatalf("what was cut at %d: Do(%+v) = %+v, and not %+v", n, c.event, r, want)
			}
			w.follows(t, s) // while it is off, what is told is what is answered
			// Not all of them at each operation: of the tree itself package fsys holds them all.
			for m := i + n; m < i+n+2; m++ {
				met[c.cut(t, n, k, all[m%len(all)], all[(5*m+3)%len(all)])]++
			}
		}
	}
	for _, what := range []string{"not done", "done", "done in part"} {
		if met[what] < 50 {
			t.Errorf("%s was met only %d times of %v", what, met[what], met)
		}
	}
}

// cut: a scene's event is cut at its n-th operation, behind k steps; the power comes back, goes off in the opening and comes back again; what has come of the event?
func (c scene) cut(t *testing.T, n, k int, first, again manage.Event) string {
	t.Helper()
	s, w := c.set(t)
	steps := w.steps(c.event)
	does(t, s, manage.Event{Kind: manage.Arm, N: n}, manage.Reply{})
	does(t, s, c.event, w.cut(t, c.event, steps, k))
	first.Kind, again.Kind = manage.Crash, manage.Crash
	for first.N = 1; ; first.N++ {
		r := s.Do(first)
		if r.E == api.OK {
			break
		}
		is(t, "Up", s.Up(), false)
		is(t, "DB", s.DB(), nil)
		is(t, "the opening", same(r, manage.Reply{E: api.ErrCrash}) && first.N < 50, true)
	}
	does(t, s, again, manage.Reply{})
	what := "not done"
	if !tree.Same(s.DB().FS().Tree(), w.b.FS().Tree()) {
		is(t, "a step that was cut", steps[k].do(), api.OK)
		what = "done"
		k++
	}
	if 0 < k && k < len(steps) {
		what = "done in part"
	}
	for range 2 {
		w.follows(t, s)
		does(t, s, manage.Event{Kind: manage.Verify}, manage.Reply{})
		reopens(t, s)
	}
	// The event again, by what stands there now.
	does(t, s, c.event, w.asked(c.event))
	w.follows(t, s)
	return what
}

// TestP22_3_Openings: wherever the power goes off in an opening, and as often as it does, all is as it was, and a Crash with 0 opens it.
func TestP22_3_Openings(t *testing.T) {
	for _, sectors := range []int{6, 7, 70} {
		s := fresh(t, sectors)
		if sectors == 70 {
			for _, v := range ahead(2) {
				done(t, s, v)
			}
		}
		was := s.DB().FS().Tree()
		for i, v := range slices.Repeat(falls(), 3) {
			v.Kind, v.N = manage.Crash, 1+i%3
			if r := s.Do(v); (r.E == api.OK) != s.Up() || r.E != api.OK && r.E != api.ErrCrash {
				t.Fatalf("Crash = %+v, Up %t", r, s.Up())
			}
			if i%4 == 0 {
				v.N = 0
				does(t, s, v, manage.Reply{})
				is(t, "Same", tree.Same(s.DB().FS().Tree(), was), true)
			}
		}
		reopens(t, s)
		is(t, "Same", tree.Same(s.DB().FS().Tree(), was), true)
	}
}

// TestP3_Whole: what was answered is durable at once: it stays, whatever is lost then.
func TestP3_Whole(t *testing.T) {
	for _, c := range scenes(t) {
		s, w := c.set(t)
		does(t, s, c.event, w.asked(c.event))
		for _, v := range falls()[:9] {
			v.Kind = manage.Crash
			does(t, s, v, manage.Reply{})
			w.follows(t, s)
		}
	}
}
