package pack_test

import (
	"bytes"
	"maps"
	"slices"
	"strconv"
	"testing"

	"staddle/api"
	"staddle/nar"
	"staddle/pack"
	"staddle/samples"
	"staddle/sector"
	"staddle/valid"
)

// side is a store on a device, and what must be valid there.
type side struct {
	d    *sector.Device
	b    *valid.DB
	was  map[string]thing
	now  map[string]thing // what there is instead, if the call that was cut is done
	dead bool
}

// rising: some things by their paths.
func rising(l map[string]thing) []thing {
	var all []thing
	for _, path := range slices.Sorted(maps.Keys(l)) {
		all = append(all, l[path])
	}
	return all
}

// full: have some things no room on the device?
func (s *side) full(l map[string]thing) bool {
	db, store := dir(), dir()
	for _, x := range rising(l) {
		db.Names, db.Kids = append(db.Names, x.Path), append(db.Kids, file(text(x.Info)))
		store.Names, store.Kids = append(store.Names, x.Path), append(store.Kids, x.tree)
	}
	p, _ := nar.Write(dir("db", db, "store", store))
	return len(p) > s.b.FS().Room()
}

// closure: what some paths need, in the order in which it can come: of those that are left at each time the least that needs none of them.
func (s *side) closure(of []string) []thing {
	left := map[string]thing{}
	for todo := slices.Clone(of); len(todo) > 0; todo = todo[1:] {
		if _, ok := left[todo[0]]; !ok {
			left[todo[0]] = s.was[todo[0]]
			todo = append(todo, s.was[todo[0]].Refs...)
		}
	}
	var l []thing
	for len(left) > 0 {
		for _, x := range rising(left) {
			if !slices.ContainsFunc(x.Refs, func(ref string) bool { _, ok := left[ref]; return ok && ref != x.Path }) {
				l = append(l, x)
				delete(left, x.Path)
				break
			}
		}
	}
	return l
}

// comes: what Import must answer of some things that are right, and what is valid then.
func (s *side) comes(l []thing) (map[string]thing, api.Errno) {
	now, more := maps.Clone(s.was), false
	for _, x := range l {
		was, ok := s.was[x.Path]
		if ok && (was.Sum != x.Sum || !slices.Equal(was.Refs, x.Refs)) {
			return nil, api.ErrExists
		}
		if !ok {
			now[x.Path], more = x, true
		}
	}
	switch {
	case more && (s.dead || !s.d.On()):
		return nil, api.ErrCrash
	case more && s.full(now):
		return nil, api.ErrFull
	}
	return now, api.OK
}

// pair is two stores.
type pair struct {
	*testing.T
	dice  samples.Dice
	sides [2]*side
	met   map[string]int
}

// any: one of a side's valid paths, now and then another.
func (x *pair) any(s *side) string {
	l := slices.Sorted(maps.Keys(s.was))
	if len(l) == 0 || x.dice.Roll(30) == 0 {
		return []string{dPath, "x"}[x.dice.Roll(2)]
	}
	return l[x.dice.Roll(len(l))]
}

// add makes a path valid at a side; of the paths of one name most have the same tree.
func (x *pair) add(s *side) {
	sign := string("0123456789abcdfghijklmnpqrsvwxyz"[x.dice.Roll(20)])
	seed := samples.Dice(int(sign[0])*10 + x.dice.Roll(12)/11)
	var refs []string
	for range x.dice.Roll(4) {
		if path := x.any(s); s.was[path].Path == path {
			refs = append(refs, path)
		}
	}
	one := made(x.T, samples.Path(sign, "n"), seed.Tree(2), []string{"", dPath}[x.dice.Roll(2)], refs...)
	if slices.Contains(one.Refs, one.Path) || s.was[one.Path].Path != "" {
		return
	}
	infos, trees := both([]thing{one})
	if e := s.b.Register(infos, trees); e == api.OK {
		s.was[one.Path] = one
	} else if e == api.ErrCrash && !s.dead {
		s.now = maps.Clone(s.was)
		s.now[one.Path] = one
	}
}

// remove takes a path away at a side.
func (x *pair) remove(s *side) {
	path := x.any(s)
	if e := s.b.Remove(path); e == api.OK {
		delete(s.was, path)
	} else if e == api.ErrCrash && !s.dead {
		s.now = maps.Clone(s.was)
		delete(s.now, path)
	}
}

// export: a pack of some of a side's paths, and what must stand in it; none, if that has an error.
func (x *pair) export(s *side) ([]byte, []thing) {
	x.Helper()
	var of []string
	want := api.OK
	for range x.dice.Roll(4) {
		path := x.any(s)
		of = append(of, path)
		_, ok := s.was[path]
		switch {
		case want != api.OK || ok:
		case path == "x":
			want = api.ErrText
		default:
			want = api.ErrNone
		}
	}
	p, e := pack.Export(s.b, of)
	x.met["Export "+strconv.Itoa(int(e))]++
	if e != want || e != api.OK && p != nil {
		x.Fatalf("Export(%v) = %d bytes, %d, and not %d", of, len(p), e, want)
	}
	if e != api.OK {
		return nil, nil
	}
	l := s.closure(of)
	if !bytes.Equal(p, packed(l...)) {
		x.Fatalf("Export(%v) isn't the pack of %v", of, paths(l...))
	}
	return p, l
}

// carry exports from one side and imports at the other, or at the same.
func (x *pair) carry(from, to *side) {
	x.Helper()
	p, l := x.export(from)
	if p == nil {
		return
	}
	now, want := to.comes(l)
	if x.dice.Roll(10) == 0 {
		p[x.dice.Roll(len(p))] ^= 1 << x.dice.Roll(8)
		now, want = nil, api.ErrSum
	}
	got, e := pack.Import(to.b, p)
	x.met["Import "+strconv.Itoa(int(e))]++
	if e == api.ErrCrash && want == api.OK && !to.d.On() {
		to.now = now
		return
	}
	if e != want || e == api.OK && !slices.Equal(got, paths(l...)) || e != api.OK && got != nil {
		x.Fatalf("Import of %v = %v, %d, and not %d", paths(l...), got, e, want)
	}
	if e == api.OK {
		x.met[[]string{"none", "one", "two", "more"}[min(len(now)-len(to.was), 3)]]++
		to.was = now
	}
}

// fall: the power goes off and on at a side.
func (x *pair) fall(s *side) {
	fall := x.dice.Fall(s.d.Way())
	is(x.T, "Restart", s.d.Restart(fall.Keep, fall.Torn, fall.Cut), api.OK)
	s.dead = true
}

// open: the power goes on, and all is opened anew.
func (x *pair) open(s *side) {
	x.fall(s)
	b, e := samples.Stored(s.d)
	is(x.T, "Stored", e, api.OK)
	s.b = b
	if s.now != nil && !slices.Equal(b.List(), paths(rising(s.was)...)) {
		x.met["done"]++
		s.was = s.now
	}
	s.now, s.dead = nil, false
}

// event: anything is done.
func (x *pair) event() {
	x.Helper()
	k := x.dice.Roll(2)
	s, other := x.sides[k], x.sides[1-k]
	switch k := x.dice.Roll(40); {
	case s.dead && k < 10:
		x.open(s)
	case k < 14:
		x.add(s)
	case k < 20:
		x.remove(s)
	case k < 34:
		x.carry(s, other)
	case k < 36:
		x.carry(s, s)
	case k < 38:
		is(x.T, "Arm", s.d.Arm(x.dice.Roll(30)), api.OK)
	case k == 38:
		x.fall(s)
	default:
		x.open(s)
	}
	for _, s := range x.sides {
		s.dead = s.dead || !s.d.On()
		holds(x.T, s.b, rising(s.was)...)
	}
}

// TestP8_AsTold holds packs to the document at many events at two stores: what is exported arrives, whole or not at all, and nothing else does.
func TestP8_AsTold(t *testing.T) {
	dice := samples.Dice(23)
	met := map[string]int{}
	for range 40 {
		x := &pair{T: t, dice: samples.Dice(dice.Roll(1 << 20)), met: met}
		for i := range x.sides {
			d, b := fresh(t, 40+dice.Roll(100))
			x.sides[i] = &side{d: d, b: b, was: map[string]thing{}}
		}
		for range 150 {
			x.event()
		}
	}
	for _, what := range []string{
		"Export 0", "Export 4", "Export 6", "Import 0", "Import 7", "Import 14", "Import 15", "Import 16",
		"none", "one", "two", "more", "done",
	} {
		if met[what] < 5 {
			t.Errorf("%s was met only %d times of %v", what, met[what], met)
		}
	}
}
