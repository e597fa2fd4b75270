package manage_test

import (
	"bytes"
	"slices"
	"testing"

	"staddle/api"
	"staddle/eval"
	"staddle/manage"
	"staddle/order"
	"staddle/pack"
	"staddle/profile"
	"staddle/realise"
	"staddle/samples"
	"staddle/sweep"
	"staddle/tree"
	"staddle/valid"
)

// is fails where an error, or anything else, isn't as it must be.
func is[T comparable](t *testing.T, what string, got, want T) {
	t.Helper()
	if got != want {
		t.Fatalf("%s: %v, and not %v", what, got, want)
	}
}

// fresh: a new store.
func fresh(t *testing.T, sectors int) *manage.Store {
	t.Helper()
	s, e := manage.New(sectors)
	is(t, "New", e, api.OK)
	return s
}

// same: are two replies alike?
func same(a, b manage.Reply) bool {
	return a.E == b.E && a.Text == b.Text && a.N == b.N && slices.Equal(a.List, b.List) && bytes.Equal(a.Data, b.Data)
}

// does fails where an event has another reply.
func does(t *testing.T, s *manage.Store, v manage.Event, want manage.Reply) {
	t.Helper()
	if r := s.Do(v); !same(r, want) {
		t.Fatalf("Do(%+v) = %+v, and not %+v", v, r, want)
	}
}

// done: the reply to an event, which must have no error.
func done(t *testing.T, s *manage.Store, v manage.Event) manage.Reply {
	t.Helper()
	r := s.Do(v)
	if r.E != api.OK {
		t.Fatalf("Do(%+v) = %+v", v, r)
	}
	return r
}

// refuses fails where an event has another error, or anything beside it, or something has changed then.
func refuses(t *testing.T, s *manage.Store, v manage.Event, want api.Errno) {
	t.Helper()
	was, up := s.DB().FS().Tree(), s.Up()
	does(t, s, v, manage.Reply{E: want})
	if !tree.Same(s.DB().FS().Tree(), was) || s.Up() != up {
		t.Fatalf("Do(%+v) has an error, but something has changed", v)
	}
}

// reopens lets the power go off and on, and all is lost that is on its way.
func reopens(t *testing.T, s *manage.Store) {
	t.Helper()
	does(t, s, manage.Event{Kind: manage.Crash, Torn: -1}, manage.Reply{})
	is(t, "Up", s.Up(), true)
}

// holds fails where others are valid than these paths, in whichever order they are handed in.
func holds(t *testing.T, s *manage.Store, want ...string) {
	t.Helper()
	slices.Sort(want)
	if l := s.DB().List(); !slices.Equal(l, want) {
		t.Fatalf("List = %v, and not %v", l, want)
	}
	does(t, s, manage.Event{Kind: manage.Verify}, manage.Reply{})
}

// twin is a store of the layers below alone, on a device whose power stays on: what it answers, and what stands in it, manage must have, too.
type twin struct {
	b *valid.DB
}

// twinOf: a twin on a new device.
func twinOf(t *testing.T, sectors int) twin {
	t.Helper()
	_, b, e := samples.Store(sectors)
	is(t, "Store", e, api.OK)
	return twin{b}
}

// keep: what the words of Collect say is kept.
func keep(word string) sweep.Keep {
	switch word {
	case "drvs":
		return sweep.Keep{Drvs: true}
	case "outs":
		return sweep.Keep{Outs: true}
	case "both":
		return sweep.Keep{Drvs: true, Outs: true}
	}
	return sweep.Keep{}
}

// line: some derivations, each behind those that it needs, in the order of layer 13.
func line(l []eval.Made) []api.Drv {
	var names []string
	var needs [][]string
	drvs := map[string]api.Drv{}
	for _, x := range l {
		names, needs = append(names, x.Path), append(needs, x.Drv.Drvs)
		drvs[x.Path] = x.Drv
	}
	g, _ := order.New(names, needs)
	sorted, _ := g.Sort()
	var all []api.Drv
	for _, path := range sorted {
		all = append(all, drvs[path])
	}
	return all
}

// step is what is done whole, or not: the paths that are told of it, how many bytes go with it, its error.
type step struct {
	path  string
	bytes int
	do    func() api.Errno
}

// steps: what an event does, step by step, by what stands in the twin now.
func (w twin) steps(v manage.Event) []step {
	var l []step
	switch v.Kind {
	case manage.Make:
		x, _, _ := eval.Text(v.A, v.N)
		for _, d := range line(x.Made) {
			path, _ := samples.DrvFile(d)
			l = append(l, step{path, 0, func() api.Errno { _, e := realise.Add(w.b, d); return e }})
		}
	case manage.Build:
		plan, _ := realise.Plan(w.b, v.A)
		for _, path := range plan {
			l = append(l, step{path, 0, func() api.Errno { _, _, e := realise.Realise(w.b, path); return e }})
		}
	case manage.Collect:
		for _, path := range sweep.Dead(w.b, keep(v.A)) {
			x, _ := w.b.Info(path)
			l = append(l, step{path, x.Size, func() api.Errno { return w.b.Remove(path) }})
		}
	default:
		l = append(l, step{"", 0, func() api.Errno { return w.asked(v).E }})
	}
	return l
}

// asked: what must be answered while it is up.
func (w twin) asked(v manage.Event) (r manage.Reply) {
	b := w.b
	switch v.Kind {
	case manage.Eval, manage.Make:
		x, place, e := eval.Text(v.A, v.N)
		if e != api.OK {
			return manage.Reply{E: e, N: place}
		}
		if r.Text = x.Text; v.Kind == manage.Eval {
			return r
		}
		for _, s := range w.steps(v) {
			if e := s.do(); e != api.OK {
				return manage.Reply{E: e, List: r.List}
			}
			r.List = append(r.List, s.path)
		}
	case manage.Build:
		r.Text, r.N, r.E = realise.Realise(b, v.A)
	case manage.Tree:
		r.Text, r.E = realise.AddTree(b, v.A, v.Tree)
	case manage.Set:
		r.N, r.E = profile.Set(b, v.A, v.B)
	case manage.Switch:
		r.E = profile.Switch(b, v.A, v.N)
	case manage.Back:
		r.N, r.E = profile.Back(b, v.A)
	case manage.Drop:
		r.E = profile.Drop(b, v.A, v.N)
	case manage.Old:
		r.N, r.E = profile.Old(b, v.A)
	case manage.Root:
		r.E = profile.Root(b, v.A, v.B)
	case manage.Collect:
		r.List, r.N, r.E = sweep.Collect(b, keep(v.A), v.N)
	case manage.Export:
		r.Data, r.E = pack.Export(b, []string{v.A})
	case manage.Import:
		r.List, r.E = pack.Import(b, v.Data)
	case manage.Verify:
		r.List = b.Verify()
	}
	return r
}

// told: how many steps of an event that was cut a reply tells to be done.
func told(v manage.Event, r manage.Reply) int {
	if v.Kind == manage.Build {
		return r.N
	}
	return len(r.List)
}

// cut: what must be answered to an event that was cut behind some steps; these are done then.
func (w twin) cut(t *testing.T, v manage.Event, l []step, n int) manage.Reply {
	t.Helper()
	want := manage.Reply{E: api.ErrCrash}
	for _, s := range l[:n] {
		is(t, "a step that is told to be done", s.do(), api.OK)
		switch v.Kind {
		case manage.Make:
			want.List = append(want.List, s.path)
		case manage.Build:
			want.N++
		case manage.Collect:
			want.List = append(want.List, s.path)
			want.N += s.bytes
		}
	}
	return want
}

// follows fails where a store has anything else than its twin.
func (w twin) follows(t *testing.T, s *manage.Store) {
	t.Helper()
	if got, want := s.DB().FS().Tree(), w.b.FS().Tree(); !tree.Same(got, want) {
		t.Fatalf("there stands %q, and not %q", tree.Paths(got), tree.Paths(want))
	}
}
