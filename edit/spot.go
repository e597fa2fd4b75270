package edit

import (
	"slices"

	"staddle/api"
)

// spot is where a change is made: a directory, and the place that a name has in it, or would have.
type spot struct {
	dir   *api.Tree
	name  string
	place int
	depth int // of what stands there
	taken bool
}

// change hands a change down to the spot of some names, at least one.
func (w *work) change(names []string, do func(spot) api.Errno) api.Errno {
	return down(&w.root, names, 1, do)
}

// down hands a change down to the directory in which the last of some names stands; depth is that of what is in dir.
func down(dir *api.Tree, names []string, depth int, do func(spot) api.Errno) api.Errno {
	if dir.Kind != api.Dir {
		return api.ErrKind
	}
	place, taken := slices.BinarySearch(dir.Names, names[0])
	if len(names) == 1 {
		return do(spot{dir, names[0], place, depth, taken})
	}
	if !taken {
		return api.ErrNone
	}
	return down(&dir.Kids[place], names[1:], depth+1, do)
}
