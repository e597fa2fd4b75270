package journal

import (
	"bytes"

	"staddle/hash"
)

// A piece is how the base, each record, and what the sectors ahead say are kept: the length, a number and a digest, and behind these the bytes.
const (
	lengthLen = 4
	numberLen = 8
	sumLen    = 20
)

// Head is how many bytes more than it has each record takes, and the base.
const Head = lengthLen + numberLen + sumLen

// mark stands in each length, so that noughts are no piece.
const mark = 1 << 31

// pack: the piece of a number and of some bytes, fewer than mark.
func pack(number uint64, p []byte) []byte {
	l := make([]byte, 0, Head+len(p))
	l = told(l, mark|uint64(len(p)), lengthLen)
	l = told(l, number, numberLen)
	l = append(l, sum(l, p)...)
	return append(l, p...)
}

// unpack: the bytes of the piece with that number that stands at the beginning of l; false: none does, whole.
func unpack(l []byte, number uint64) ([]byte, bool) {
	if len(l) < Head {
		return nil, false
	}
	length := read(l[:lengthLen])
	if length < mark || length-mark > uint64(len(l)-Head) {
		return nil, false
	}
	p := l[Head : Head+int(length-mark)]
	front, d := l[:Head-sumLen], l[Head-sumLen:Head]
	if numberOf(l) != number || !bytes.Equal(sum(front, p), d) {
		return nil, false
	}
	return p, true
}

// numberOf: the number of the piece that stands, if one does, at the beginning of at least Head bytes.
func numberOf(l []byte) uint64 {
	return read(l[lengthLen : lengthLen+numberLen])
}

// later: does a number stand behind another one? Behind the greatest comes 0: what stands on a device ahead of a Format may have any number, so none is the last one, and of two that are far apart either may be the later one.
func later(number, other uint64) bool {
	return int64(number-other) > 0
}

// sum: the digest of a piece, of its length and its number, too.
func sum(front, p []byte) []byte {
	h := hash.New()
	h.Write(front)
	h.Write(p)
	d := hash.Fold(h.Sum())
	return d[:]
}

// told: l, and behind it a number in so many bytes, the highest first.
func told(l []byte, number uint64, size int) []byte {
	for i := range size {
		l = append(l, byte(number>>(8*(size-1-i))))
	}
	return l
}

// read: the number that some bytes tell, the highest first.
func read(l []byte) uint64 {
	number := uint64(0)
	for _, c := range l {
		number = number<<8 | uint64(c)
	}
	return number
}
