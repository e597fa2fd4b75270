// Package base is layer 2: bytes as text, to the bases 16 and 32.
package base

import (
	"math"
	"strings"

	"staddle/api"
)

const (
	signs    = "0123456789abcdfghijklmnpqrsvwxyz"
	signBits = 5
	digits   = "0123456789abcdef"
)

// Len: how many signs so many bytes have.
func Len(n int) int {
	if n <= 0 {
		return 0
	}
	fives, rest := n/5, n%5 // five bytes have eight signs; 8 n itself might not fit into an int
	if fives > math.MaxInt/8 {
		return math.MaxInt
	}
	return fives*8 + (rest*8+4)/5
}

// Encode: bytes in signs, the last bits first.
func Encode(p []byte) string {
	s := make([]byte, Len(len(p)))
	for i := range len(s) {
		s[len(s)-1-i] = signs[bitsAt(p, i*signBits)]
	}
	return string(s)
}

// bitsAt: the five bits of a number from one of its bits on; what is behind its last byte is noughts.
func bitsAt(p []byte, bit int) byte {
	at, shift := bit/8, bit%8
	x := uint(p[at])
	if at+1 < len(p) {
		x |= uint(p[at+1]) << 8
	}
	return byte(x>>shift) & (1<<signBits - 1)
}

// Decode: the bytes of some signs.
func Decode(s string) ([]byte, api.Errno) {
	n := len(s)/8*5 + len(s)%8*5/8
	if Len(n) != len(s) {
		return nil, api.ErrForm
	}
	p := make([]byte, n)
	for i := range len(s) {
		value := strings.IndexByte(signs, s[len(s)-1-i])
		if value < 0 || !putBits(p, i*signBits, uint(value)) {
			return nil, api.ErrForm
		}
	}
	return p, api.OK
}

// putBits lays five bits into a number of noughts, from one of its bits on. False: some are set behind its last byte, as no Encode sets them.
func putBits(p []byte, bit int, value uint) bool {
	at, shift := bit/8, bit%8
	x := value << shift
	p[at] |= byte(x)
	if at+1 < len(p) {
		p[at+1] |= byte(x >> 8)
		return true
	}
	return x>>8 == 0
}

// Hex: bytes in digits to the base 16.
func Hex(p []byte) string {
	s := make([]byte, 0, 2*len(p))
	for i := range len(p) {
		s = append(s, digits[p[i]>>4], digits[p[i]&15])
	}
	return string(s)
}

// ReadHex: back.
func ReadHex(s string) ([]byte, api.Errno) {
	if len(s)%2 != 0 {
		return nil, api.ErrForm
	}
	p := make([]byte, len(s)/2)
	for i := range len(p) {
		high := strings.IndexByte(digits, s[2*i])
		low := strings.IndexByte(digits, s[2*i+1])
		if high < 0 || low < 0 {
			return nil, api.ErrForm
		}
		p[i] = byte(high<<4 | low)
	}
	return p, api.OK
}
