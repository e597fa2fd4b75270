package pack

import (
	"staddle/api"
	"staddle/hash"
	"staddle/nar"
	"staddle/valid"
)

const (
	lengthLen = 4  // bytes ahead of a part that tell how many it has
	digestLen = 32 // bytes of the digest at a pack's end
)

// reader goes through the parts of a pack.
type reader struct {
	rest []byte // what it has not come to yet
}

// Read: the paths and the trees of a pack.
func Read(p []byte) ([]api.Info, []api.Tree, api.Errno) {
	parts, e := checked(p)
	if e != api.OK {
		return nil, nil, e
	}
	r := reader{rest: parts}
	if magic, ok := r.part(); !ok || string(magic) != Magic {
		return nil, nil, api.ErrForm
	}
	var l []api.Info
	var trees []api.Tree
	for len(r.rest) > 0 {
		x, t, e := r.path()
		if e != api.OK {
			return nil, nil, e
		}
		l = append(l, x)
		trees = append(trees, t)
	}
	return l, trees, api.OK
}

// checked: what stands ahead of a pack's digest, if it is the digest of that.
func checked(p []byte) ([]byte, api.Errno) {
	at := len(p) - digestLen
	if at < 0 {
		return nil, api.ErrForm
	}
	var sum [digestLen]byte
	copy(sum[:], p[at:])
	if hash.Of(p[:at]) != sum {
		return nil, api.ErrSum
	}
	return p[:at], api.OK
}

// part: the bytes of the next part, which are the pack's own; false: it isn't there, or not whole.
func (r *reader) part() ([]byte, bool) {
	if len(r.rest) < lengthLen {
		return nil, false
	}
	length := uint64(0)
	for _, b := range r.rest[:lengthLen] {
		length = length<<8 | uint64(b)
	}
	rest := r.rest[lengthLen:]
	if length > uint64(len(rest)) {
		return nil, false
	}
	r.rest = rest[length:]
	return rest[:length], true
}

// path: what is known of the next path, and its tree.
func (r *reader) path() (api.Info, api.Tree, api.Errno) {
	text, ok := r.part()
	if !ok {
		return api.Info{}, api.Tree{}, api.ErrForm
	}
	x, e := valid.Decode(string(text))
	if e != api.OK {
		return api.Info{}, api.Tree{}, api.ErrForm
	}
	archive, ok := r.part()
	if !ok {
		return api.Info{}, api.Tree{}, api.ErrForm
	}
	t, e := nar.Read(archive)
	if e != api.OK {
		return api.Info{}, api.Tree{}, api.ErrForm
	}
	// A tree has one archive, so this is the one that is meant.
	if !fits(x, archive) {
		return api.Info{}, api.Tree{}, api.ErrSum
	}
	return x, t, api.OK
}
