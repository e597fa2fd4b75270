package recipe

import (
	"bytes"
	"strings"

	"staddle/api"
	"staddle/edit"
	"staddle/tree"
)

// build is what steps have made so far, and what they may read.
type build struct {
	tree api.Tree
	out  string
	in   []api.Input
	most int // a word that has more bytes than that is too long for all that steps do, however many more it has
}

// newBuild: no step has been done.
func newBuild(out string, in []api.Input) *build {
	b := &build{api.Tree{Kind: api.Dir}, out, in, 2 * api.MaxData}
	for _, x := range in {
		b.most = max(b.most, len(x.Path))
	}
	return b
}

// step: one step more. Behind an error the tree is of no use any more.
func (b *build) step(s api.Step) api.Errno {
	if !formed(s) {
		return api.ErrForm
	}
	w := b.filled(s.Args)
	switch s.Kind {
	case api.RMkdir:
		return b.edit(api.Edit{Kind: api.OMkdir, Path: w[0]})
	case api.RWrite:
		return b.put(w[0], api.Tree{Kind: api.File, Data: []byte(w[1])})
	case api.RLink:
		return b.put(w[0], api.Tree{Kind: api.Link, Data: []byte(w[1])})
	case api.RCopy:
		return b.take(w[0], w[1], w[2])
	case api.RAppend:
		return b.change(w[0], func(f *api.Tree) api.Errno {
			f.Data = append(f.Data, w[1]...)
			return api.OK
		})
	case api.RExec:
		return b.change(w[0], func(f *api.Tree) api.Errno {
			f.Exec = true
			return api.OK
		})
	case api.RSwap:
		return b.change(w[0], func(f *api.Tree) api.Errno {
			return swap(f, w[1], w[2])
		})
	}
	return api.ErrThrow
}

// edit: the tree behind an edit.
func (b *build) edit(x api.Edit) api.Errno {
	t, e := edit.Apply(b.tree, []api.Edit{x})
	b.tree = t
	return e
}

// put: a tree stands at a path.
func (b *build) put(path string, t api.Tree) api.Errno {
	return b.edit(api.Edit{Kind: api.OPut, Path: path, Tree: t})
}

// take: what stands at a path of an input stands at one of the tree, too.
func (b *build) take(input, from, to string) api.Errno {
	for _, x := range b.in {
		if x.Path == input {
			t, e := tree.At(x.Tree, from)
			if e != api.OK {
				return e
			}
			return b.put(to, t)
		}
	}
	return api.ErrName
}

// change: what a change makes of the file at a path stands there.
func (b *build) change(path string, do func(*api.Tree) api.Errno) api.Errno {
	f, e := tree.At(b.tree, path)
	if e != api.OK {
		return e
	}
	if f.Kind != api.File {
		return api.ErrKind
	}
	if e := do(&f); e != api.OK {
		return e
	}
	return b.put(path, f)
}

// swap: one text in the place of another one, wherever that stands in a file.
func swap(f *api.Tree, old, with string) api.Errno {
	if old == "" {
		return api.ErrArg
	}
	count := bytes.Count(f.Data, []byte(old))
	if int64(count)*int64(len(with)) > 2*api.MaxData {
		return api.ErrLong
	}
	f.Data = bytes.ReplaceAll(f.Data, []byte(old), []byte(with))
	return api.OK
}

// filled: words in which each Out is the path of what is made.
func (b *build) filled(words []string) []string {
	var l []string
	for _, word := range words {
		l = append(l, replaced(word, b.out, b.most))
	}
	return l
}

// replaced: a word in which each Out is out; of one that has more than most bytes then, the first most + 1, as all of it might be more than there is memory for.
func replaced(word, out string, most int) string {
	var text strings.Builder
	add := func(s string) {
		text.WriteString(s[:min(len(s), most+1-text.Len())])
	}
	for more := true; more && text.Len() <= most; {
		var head string
		head, word, more = strings.Cut(word, Out)
		add(head)
		if more {
			add(out)
		}
	}
	return text.String()
}
