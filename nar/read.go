package nar

import (
	"staddle/api"
	"staddle/tree"
)

// reader goes through an archive. Where this is not as Write makes one, it gives up: it throws an api.Errno, which whole catches.
type reader struct {
	rest []byte // what it has not come to yet
}

// giveUp throws the error of what is no archive.
func giveUp() {
	panic(api.ErrForm)
}

// whole reads an archive behind which nothing stands.
func (r *reader) whole() (t api.Tree, e api.Errno) {
	defer func() {
		switch thrown := recover().(type) {
		case nil:
		case api.Errno:
			t, e = api.Tree{}, thrown
		default: // what the reader does not throw itself may not get out, either
			t, e = api.Tree{}, api.ErrForm
		}
	}()
	r.skip(Magic)
	t = r.tree(0)
	// The form has rules that the strings alone do not show: of names, of targets, and how much a tree may have.
	if len(r.rest) > 0 || !tree.Form(t) {
		giveUp()
	}
	return t, api.OK
}

// next is the bytes of the next string; they are the archive's own.
func (r *reader) next() []byte {
	if len(r.rest) < unit {
		giveUp()
	}
	length := uint64(0)
	for i := range unit {
		length |= uint64(r.rest[i]) << (8 * i)
	}
	r.rest = r.rest[unit:]
	if length > uint64(len(r.rest)) {
		giveUp()
	}
	return r.taken(int(length))
}

// taken is the next n bytes, of those that are there; it goes on behind their padding.
func (r *reader) taken(n int) []byte {
	end := n + padding(n)
	if end > len(r.rest) {
		giveUp()
	}
	for _, b := range r.rest[n:end] {
		if b != 0 {
			giveUp()
		}
	}
	p := r.rest[:n]
	r.rest = r.rest[end:]
	return p
}

// data is the bytes of the next string in memory of their own.
func (r *reader) data() []byte {
	return append([]byte(nil), r.next()...)
}

// skip goes behind strings that must be the next ones.
func (r *reader) skip(list ...string) {
	for _, s := range list {
		if string(r.next()) != s {
			giveUp()
		}
	}
}

// tree reads a tree that stands at a depth, and all in it.
func (r *reader) tree(depth int) api.Tree {
	// Here, and not in tree.Form alone: an archive may be deeper than the stack.
	if depth > api.MaxDepth {
		giveUp()
	}
	r.skip("(", "type")
	var t api.Tree
	switch string(r.next()) {
	case "regular":
		t = r.file()
	case "symlink":
		t = r.link()
	case "directory":
		t = r.directory(depth)
	default:
		giveUp()
	}
	return t
}

// file reads a file, from behind its type on.
func (r *reader) file() api.Tree {
	t := api.Tree{Kind: api.File}
	word := string(r.next())
	if word == "executable" {
		t.Exec = true
		r.skip("")
		word = string(r.next())
	}
	if word != "contents" {
		giveUp()
	}
	t.Data = r.data()
	r.skip(")")
	return t
}

// link reads a link, from behind its type on.
func (r *reader) link() api.Tree {
	r.skip("target")
	t := api.Tree{Kind: api.Link, Data: r.data()}
	r.skip(")")
	return t
}

// directory reads a directory that stands at a depth, from behind its type on.
func (r *reader) directory(depth int) api.Tree {
	t := api.Tree{Kind: api.Dir}
	for {
		switch string(r.next()) {
		case "entry":
			r.skip("(", "name")
			t.Names = append(t.Names, string(r.next()))
			r.skip("node")
			t.Kids = append(t.Kids, r.tree(depth+1))
			r.skip(")")
		case ")":
			return t
		default:
			giveUp()
		}
	}
}
