package realise

import (
	"staddle/api"
	"staddle/base"
	"staddle/recipe"
	"staddle/refs"
	"staddle/valid"
)

// do: what a derivation makes is valid; what those make that it needs must be so already.
func (l *line) do(b *valid.DB, x work) api.Errno {
	readable := b.Closure(l.roots(x))
	t, e := x.built(inputs(b, readable))
	if e != api.OK {
		return e
	}
	info, e := valid.Make(x.out, t, refs.Tree(t, append(readable, x.out)), x.path)
	if e != api.OK {
		return e
	}
	if e := x.fault(info); e != api.OK {
		return e
	}
	return b.Register([]api.Info{info}, []api.Tree{t})
}

// roots: the paths that a derivation says it reads.
func (l *line) roots(x work) []string {
	var paths []string
	paths = append(paths, x.drv.Sources...)
	for _, need := range x.drv.Drvs {
		paths = append(paths, l.at(need).out)
	}
	return paths
}

// inputs: some paths with their trees; one whose tree others have taken away can't be read.
func inputs(b *valid.DB, paths []string) []api.Input {
	var in []api.Input
	for _, path := range paths {
		if t, e := b.Tree(path); e == api.OK {
			in = append(in, api.Input{Path: path, Tree: t})
		}
	}
	return in
}

// fixed: is it told ahead what a derivation makes?
func (x work) fixed() bool {
	return x.drv.Fixed != ""
}

// built: what a derivation's recipe makes of what it may read.
func (x work) built(in []api.Input) (api.Tree, api.Errno) {
	steps, _, e := recipe.Parse(x.drv.Recipe)
	if e != api.OK {
		return api.Tree{}, e
	}
	out := x.out
	if x.fixed() {
		out = recipe.Out // its path comes of the tree's digest, so the tree can't tell it
	}
	t, _, e := recipe.Run(steps, out, in)
	return t, e
}

// fault: what is at fault with what a derivation has made.
func (x work) fault(info api.Info) api.Errno {
	if !x.fixed() {
		return api.OK
	}
	if base.Hex(info.Sum[:]) != x.drv.Fixed {
		return api.ErrSum
	}
	if len(info.Refs) > 0 {
		return api.ErrKind
	}
	return api.OK
}
