package edit

import (
	"slices"

	"staddle/api"
	"staddle/tree"
)

// work is a tree, in memory of its own, that edits change where it stands.
type work struct {
	root         api.Tree
	trees, bytes int // how many it has: counted along, as to go through all of it behind each edit would take too long
}

// start: a tree ahead of all edits.
func start(t api.Tree) (*work, api.Errno) {
	trees, bytes, e := tree.Size(t)
	if e != api.OK {
		return nil, e
	}
	return &work{tree.Copy(t), trees, bytes}, api.OK
}

// apply: one edit more. Behind an error the tree is of no use any more.
func (w *work) apply(x api.Edit) api.Errno {
	to, e := below(x.Path)
	if e != api.OK {
		return e
	}
	switch x.Kind {
	case api.OMkdir:
		return w.mkdir(to)
	case api.OPut:
		if !tree.Form(x.Tree) {
			return api.ErrForm
		}
		return w.put(to, tree.Copy(x.Tree))
	case api.OMove:
		from, e := below(x.From)
		if e != api.OK {
			return e
		}
		return w.move(from, to)
	case api.ODrop:
		_, e := w.drop(to)
		return e
	}
	return api.ErrForm
}

// mkdir: an empty directory, where nothing is.
func (w *work) mkdir(names []string) api.Errno {
	return w.change(names, func(s spot) api.Errno {
		if s.taken {
			return api.ErrExists
		}
		return w.lay(s, api.Tree{Kind: api.Dir})
	})
}

// put: a tree, in the place of what is there; it is kept.
func (w *work) put(names []string, t api.Tree) api.Errno {
	return w.change(names, func(s spot) api.Errno {
		if s.taken {
			w.take(s)
		}
		return w.lay(s, t)
	})
}

// drop: what was there is answered, and there no more.
func (w *work) drop(names []string) (api.Tree, api.Errno) {
	var dropped api.Tree
	e := w.change(names, func(s spot) api.Errno {
		if !s.taken {
			return api.ErrNone
		}
		dropped = w.take(s)
		return api.OK
	})
	return dropped, e
}

// move: what is at one path comes to another one; if that is the same, it comes back to where it was.
func (w *work) move(from, to []string) api.Errno {
	t, e := w.drop(from)
	if e != api.OK {
		return e
	}
	if within(from, to) || within(to, from) {
		return api.ErrLoop
	}
	return w.put(to, t)
}

// within: does a path stand in another one?
func within(path, other []string) bool {
	return len(path) > len(other) && slices.Equal(path[:len(other)], other)
}

// lay: a tree stands at a spot that isn't taken.
func (w *work) lay(s spot, t api.Tree) api.Errno {
	s.dir.Names = slices.Insert(s.dir.Names, s.place, s.name)
	s.dir.Kids = slices.Insert(s.dir.Kids, s.place, t)
	w.count(t, 1)
	if w.trees > api.MaxNodes || w.bytes > api.MaxData || s.depth+height(t) > api.MaxDepth {
		return api.ErrLong
	}
	return api.OK
}

// take: what stood at a spot that was taken.
func (w *work) take(s spot) api.Tree {
	t := s.dir.Kids[s.place]
	s.dir.Names = slices.Delete(s.dir.Names, s.place, s.place+1)
	s.dir.Kids = slices.Delete(s.dir.Kids, s.place, s.place+1)
	w.count(t, -1)
	return t
}

// count: there is a tree more, or less.
func (w *work) count(t api.Tree, sign int) {
	trees, bytes, _ := tree.Size(t)
	w.trees += sign * trees
	w.bytes += sign * bytes
}

// height: how far the deepest is below a tree.
func height(t api.Tree) int {
	most := 0
	for _, kid := range t.Kids {
		most = max(most, 1+height(kid))
	}
	return most
}
