package valid

import (
	"slices"

	"staddle/api"
	"staddle/nar"
)

// claim is paths that are to be valid together.
type claim struct {
	valid map[string]api.Info // what is known of the paths that are valid already
	among map[string]api.Info // of those that are to be
}

// Register: paths are valid, all of them or none, with these trees.
func (b *DB) Register(l []api.Info, trees []api.Tree) api.Errno {
	if b == nil {
		return api.ErrNone
	}
	if len(l) != len(trees) {
		return api.ErrArg
	}
	c := claim{byPath(b.known()), byPath(l)}
	if len(c.among) < len(l) {
		return api.ErrExists
	}
	for i, x := range l {
		if e := c.fault(x, trees[i]); e != api.OK {
			return e
		}
	}
	edits := c.edits(l, trees)
	if len(edits) == 0 {
		return api.OK
	}
	if _, e := graph(l).Sort(); e != api.OK {
		return e
	}
	return b.fs.Do(edits)
}

// fault: the first error of a path that is to be valid.
func (c claim) fault(x api.Info, t api.Tree) api.Errno {
	sum, size, e := nar.Sum(t)
	if e != api.OK {
		return e
	}
	if !Form(x) {
		return api.ErrForm
	}
	if sum != x.Sum || size != x.Size {
		return api.ErrSum
	}
	if !all(x.Refs, c.valid, c.among) {
		return api.ErrName
	}
	was, ok := c.valid[x.Path]
	if ok && (was.Sum != x.Sum || !slices.Equal(was.Refs, x.Refs)) {
		return api.ErrExists
	}
	return api.OK
}

// edits: those of the tree by which all that isn't valid yet gets valid.
func (c claim) edits(l []api.Info, trees []api.Tree) []api.Edit {
	var edits []api.Edit
	for i, x := range l {
		if _, ok := c.valid[x.Path]; ok {
			continue
		}
		text, _ := Encode(x) // fault has asked for its form
		edits = append(edits,
			put(treeAt(x.Path), trees[i]),
			put(knownAt(x.Path), api.Tree{Kind: api.File, Data: []byte(text)}))
	}
	return edits
}

// Remove: a path is valid no more, and its tree is gone.
func (b *DB) Remove(path string) api.Errno {
	if _, e := b.Info(path); e != api.OK {
		return e
	}
	if len(b.Users(path)) > 0 {
		return api.ErrBusy
	}
	edits := []api.Edit{{Kind: api.ODrop, Path: knownAt(path)}}
	// A tree that others have taken away must not keep its path.
	if _, e := b.fs.At(treeAt(path)); e == api.OK {
		edits = append(edits, api.Edit{Kind: api.ODrop, Path: treeAt(path)})
	}
	return b.fs.Do(edits)
}
