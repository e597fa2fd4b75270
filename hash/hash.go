// Package hash is layer 1: SHA-256 of bytes that come piece by piece.
package hash

import "sync"

const (
	blockLen  = 64 // bytes that are mixed in at once
	lengthLen = 8  // bytes at the end of the last block that tell how many there were
	mark      = 0x80
)

// start is what a state is ahead of the first block: of the square roots of the first 8 primes the first 32 bits behind the point.
var start = [8]uint32{
	0x6a09e667, 0xbb67ae85, 0x3c6ef372, 0xa54ff53a,
	0x510e527f, 0x9b05688c, 0x1f83d9ab, 0x5be0cd19,
}

// Hasher takes bytes piece by piece.
type Hasher struct {
	once  sync.Once
	words [rounds]uint32 // of the rounds; made by once
	state [8]uint32      // behind all whole blocks
	tail  [blockLen]byte // what is behind these, up to taken modulo blockLen
	taken uint64
}

// New: a hasher that has taken nothing.
func New() *Hasher {
	return &Hasher{state: start}
}

// Write: more bytes.
func (h *Hasher) Write(p []byte) {
	if h == nil {
		return
	}
	used := int(h.taken % blockLen)
	h.taken += uint64(len(p))
	if used > 0 {
		n := copy(h.tail[used:], p)
		if used+n < blockLen {
			return
		}
		h.state = h.mixed(h.state, h.tail[:])
		p = p[n:]
	}
	for len(p) >= blockLen {
		h.state = h.mixed(h.state, p[:blockLen])
		p = p[blockLen:]
	}
	copy(h.tail[:], p)
}

// Len: how many bytes it has taken.
func (h *Hasher) Len() uint64 {
	if h == nil {
		return 0
	}
	return h.taken
}

// Sum: the digest of what it has taken; it may take more.
func (h *Hasher) Sum() [32]byte {
	if h == nil {
		return [32]byte{}
	}
	// The end is mixed into a copy of the state, so that the hasher itself can go on.
	state := h.state
	end, n := h.ending()
	for at := 0; at < n; at += blockLen {
		state = h.mixed(state, end[at:at+blockLen])
	}
	return bytesOf(state)
}

// ending: the last block, or the last two, and how many bytes these have: what is left, the mark, noughts, and the number of all bits, the highest byte first.
func (h *Hasher) ending() ([2 * blockLen]byte, int) {
	var end [2 * blockLen]byte
	used := copy(end[:], h.tail[:h.taken%blockLen])
	end[used] = mark
	n := blockLen
	if used+1+lengthLen > blockLen {
		n = 2 * blockLen
	}
	length := h.taken * 8
	for i := range lengthLen {
		end[n-1-i] = byte(length >> (8 * i))
	}
	return end, n
}

// bytesOf: the words of a state, each with its highest byte first.
func bytesOf(state [8]uint32) [32]byte {
	var d [32]byte
	for i := range len(d) {
		d[i] = byte(state[i/4] >> (24 - i%4*8))
	}
	return d
}

// Of: the digest of some bytes.
func Of(p []byte) [32]byte {
	h := New()
	h.Write(p)
	return h.Sum()
}

// Fold: a digest as 20 bytes, one over the other.
func Fold(d [32]byte) [20]byte {
	var f [20]byte
	for i := range len(d) {
		f[i%len(f)] ^= d[i]
	}
	return f
}
