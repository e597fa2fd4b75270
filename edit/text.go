package edit

import (
	"staddle/api"
	"staddle/nar"
)

// lengthLen is how many bytes ahead of a part tell how many it has.
const lengthLen = 4

// Encode: edits as bytes.
func Encode(l []api.Edit) ([]byte, api.Errno) {
	var p []byte
	for _, x := range l {
		if !Form(x) {
			return nil, api.ErrForm
		}
		p = append(p, x.Kind)
		p = appendPart(p, []byte(x.Path))
		p = appendPart(p, []byte(x.From))
		if x.Kind == api.OPut {
			archive, _ := nar.Write(x.Tree)
			p = appendPart(p, archive)
		}
	}
	return p, api.OK
}

// appendPart: bytes, and behind them a part.
func appendPart(p, part []byte) []byte {
	for i := range lengthLen {
		p = append(p, byte(len(part)>>(8*(lengthLen-1-i))))
	}
	return append(p, part...)
}

// Decode: the edits of some bytes.
func Decode(p []byte) ([]api.Edit, api.Errno) {
	r := reader{rest: p}
	var l []api.Edit
	for len(r.rest) > 0 {
		x := r.edit()
		if r.short || !Form(x) {
			return nil, api.ErrForm
		}
		l = append(l, x)
	}
	return l, api.OK
}

// reader goes through edits as bytes.
type reader struct {
	rest  []byte // what it has not come to yet
	short bool   // was there less than there had to be?
}

// edit is the next edit, or what is none; its first byte must be there.
func (r *reader) edit() api.Edit {
	x := api.Edit{Kind: r.rest[0]}
	r.rest = r.rest[1:]
	x.Path = string(r.part())
	x.From = string(r.part())
	if x.Kind == api.OPut {
		x.Tree, _ = nar.Read(r.part()) // of what is no archive no tree comes, so that Form finds the edit wrong
	}
	return x
}

// part is the bytes of the next part; they are not in memory of their own.
func (r *reader) part() []byte {
	if len(r.rest) < lengthLen {
		r.short = true
		return nil
	}
	length := uint64(0)
	for _, b := range r.rest[:lengthLen] {
		length = length<<8 | uint64(b)
	}
	behind := r.rest[lengthLen:]
	if length > uint64(len(behind)) {
		r.short = true
		return nil
	}
	r.rest = behind[length:]
	return behind[:length]
}
