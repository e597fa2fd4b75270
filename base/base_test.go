package base_test

import (
	"bytes"
	"encoding/hex"
	"math"
	"math/big"
	"strings"
	"testing"

	"staddle/api"
	"staddle/base"
)

const signs = "0123456789abcdfghijklmnpqrsvwxyz"

// sample is n bytes that look like nothing.
func sample(n int) []byte {
	p := make([]byte, n)
	x := uint32(n + 1)
	for i := range p {
		x = x*1664525 + 1013904223
		p[i] = byte(x >> 24)
	}
	return p
}

// told is what the document says of Encode, by numbers of any size.
func told(p []byte) string {
	number := new(big.Int)
	for i := len(p) - 1; i >= 0; i-- {
		number.Lsh(number, 8)
		number.Or(number, big.NewInt(int64(p[i])))
	}
	size := 0
	for size*5 < 8*len(p) {
		size++
	}
	s := make([]byte, size)
	for i := range s {
		rest := new(big.Int)
		number.DivMod(number, big.NewInt(32), rest)
		s[size-1-i] = signs[rest.Int64()]
	}
	return string(s)
}

func TestP2_1_Len(t *testing.T) {
	want := 0
	for n := range 2000 {
		for want*5 < 8*n {
			want++
		}
		if got := base.Len(n); got != want {
			t.Errorf("Len(%d) = %d, and not %d", n, got, want)
		}
	}
	for _, n := range []int{-1, -5, -1000, math.MinInt32, math.MinInt} {
		if got := base.Len(n); got != 0 {
			t.Errorf("Len(%d) = %d", n, got)
		}
	}
}

func TestP2_1_LenOfGreatNumbers(t *testing.T) {
	greatest := math.MaxInt / 8 * 5
	for _, n := range []int{math.MaxInt32, math.MaxInt32 - 1, math.MaxInt/8 + 1, greatest - 1, greatest} {
		eight := new(big.Int).Mul(big.NewInt(int64(n)), big.NewInt(8))
		eight.Add(eight, big.NewInt(4)).Div(eight, big.NewInt(5))
		if got := base.Len(n); !eight.IsInt64() || int64(got) != eight.Int64() {
			t.Errorf("Len(%d) = %d, and not %s", n, got, eight)
		}
	}
	if got := base.Len(math.MaxInt); got != math.MaxInt {
		t.Errorf("Len of the greatest number = %d", got)
	}
}

func TestP2_1_EncodeExamples(t *testing.T) {
	for _, c := range []struct {
		p    []byte
		want string
	}{
		{nil, ""},
		{[]byte{}, ""},
		{[]byte{0}, "00"},
		{[]byte{1}, "01"},
		{[]byte{31}, "0z"},
		{[]byte{32}, "10"},
		{[]byte{255}, "7z"},
		{[]byte{0, 1}, "0080"},
		{[]byte{255, 255}, "1zzz"},
		{[]byte{255, 255, 255, 255, 255}, "zzzzzzzz"},
		{make([]byte, 20), strings.Repeat("0", 32)},
	} {
		if s := base.Encode(c.p); s != c.want {
			t.Errorf("Encode(%x) = %s, and not %s", c.p, s, c.want)
		}
	}
}

func TestP2_1_EncodeEverySign(t *testing.T) {
	for i := range 32 {
		if s := base.Encode([]byte{byte(i)}); s != "0"+signs[i:i+1] {
			t.Errorf("Encode(%d) = %s", i, s)
		}
	}
}

func TestP2_1_EncodeAndDecode(t *testing.T) {
	for n := range 200 {
		for _, p := range [][]byte{sample(n), make([]byte, n), bytes.Repeat([]byte{0xff}, n)} {
			s := base.Encode(p)
			if s != told(p) || len(s) != base.Len(n) {
				t.Fatalf("Encode(%x) = %s, and not %s", p, s, told(p))
			}
			if q, e := base.Decode(s); e != api.OK || !bytes.Equal(p, q) {
				t.Fatalf("Decode(%s) = %x, %d", s, q, e)
			}
		}
	}
	if s := base.Encode(sample(100000)); len(s) != 160000 {
		t.Errorf("Encode of 100000 bytes has %d signs", len(s))
	}
}

// TestP2_1_DecodeShort holds Decode against Encode at all texts of up to two bytes, and at all of four signs.
func TestP2_1_DecodeShort(t *testing.T) {
	made := map[string][]byte{"": nil}
	for a := range 256 {
		made[base.Encode([]byte{byte(a)})] = []byte{byte(a)}
		for b := range 256 {
			made[base.Encode([]byte{byte(a), byte(b)})] = []byte{byte(a), byte(b)}
		}
	}
	check := func(s string) {
		p, e := base.Decode(s)
		want, ok := made[s]
		if ok && (e != api.OK || !bytes.Equal(p, want)) || !ok && (e != api.ErrForm || len(p) != 0) {
			t.Fatalf("Decode(%q) = %x, %d", s, p, e)
		}
	}
	check("")
	for a := range 256 {
		check(string([]byte{byte(a)}))
		for b := range 256 {
			check(string([]byte{byte(a), byte(b)}))
		}
	}
	for i := range 1 << 20 {
		check(string([]byte{signs[i>>15], signs[i>>10&31], signs[i>>5&31], signs[i&31]}))
	}
}

func TestP2_1_DecodeWrong(t *testing.T) {
	for n := range 40 {
		zeros := strings.Repeat("0", n)
		p, e := base.Decode(zeros)
		bytesOf := n * 5 / 8
		if base.Len(bytesOf) == n && (e != api.OK || len(p) != bytesOf) || base.Len(bytesOf) != n && e != api.ErrForm {
			t.Errorf("Decode of %d noughts: %d bytes, %d", n, len(p), e)
		}
	}
	whole := base.Encode(sample(20))
	for i := range len(whole) {
		for _, bad := range []string{"e", "o", "t", "u", "A", "Z", " ", "-", "\x00", "\xff", "é", ""} {
			s := whole[:i] + bad + whole[i+1:]
			if p, e := base.Decode(s); e != api.ErrForm || len(p) != 0 {
				t.Errorf("Decode(%q) = %x, %d", s, p, e)
			}
		}
	}
	// The bits behind the last byte must be noughts: 2 of a text of 2 signs, 4 of 4, 1 of 5, 3 of 7.
	for _, s := range []string{"80", "z0", "2000", "z000", "h0000", "z0000", "4000000", "z000000"} {
		if p, e := base.Decode(s); e != api.ErrForm || len(p) != 0 {
			t.Errorf("Decode(%s) = %x, %d", s, p, e)
		}
	}
	for _, s := range []string{"7z", "1zzz", "gzzzz", "3zzzzzz", "zzzzzzzz"} {
		if p, e := base.Decode(s); e != api.OK || base.Encode(p) != s {
			t.Errorf("Decode(%s) = %x, %d", s, p, e)
		}
	}
}

func TestP2_2_Hex(t *testing.T) {
	if s := base.Hex([]byte{0, 255}); s != "00ff" {
		t.Errorf("Hex(00 ff) = %s", s)
	}
	for n := range 300 {
		p := sample(n)
		s := base.Hex(p)
		if s != hex.EncodeToString(p) {
			t.Errorf("Hex(%x) = %s", p, s)
		}
		if q, e := base.ReadHex(s); e != api.OK || !bytes.Equal(p, q) {
			t.Errorf("ReadHex(%s) = %x, %d", s, q, e)
		}
	}
	if s := base.Hex(nil); s != "" {
		t.Errorf("Hex of nothing = %s", s)
	}
}

// TestP2_2_ReadHexShort goes through all texts of up to two bytes.
func TestP2_2_ReadHexShort(t *testing.T) {
	const digits = "0123456789abcdef"
	for a := range 256 {
		if p, e := base.ReadHex(string([]byte{byte(a)})); e != api.ErrForm || len(p) != 0 {
			t.Errorf("ReadHex of the byte %#x = %x, %d", a, p, e)
		}
		for b := range 256 {
			s := string([]byte{byte(a), byte(b)})
			high, low := strings.IndexByte(digits, byte(a)), strings.IndexByte(digits, byte(b))
			p, e := base.ReadHex(s)
			if high < 0 || low < 0 {
				if e != api.ErrForm || len(p) != 0 {
					t.Errorf("ReadHex(%q) = %x, %d", s, p, e)
				}
			} else if e != api.OK || len(p) != 1 || int(p[0]) != high*16+low {
				t.Errorf("ReadHex(%q) = %x, %d", s, p, e)
			}
		}
	}
}

func TestP2_2_ReadHexWrong(t *testing.T) {
	if p, e := base.ReadHex(""); e != api.OK || len(p) != 0 {
		t.Errorf("ReadHex of nothing = %x, %d", p, e)
	}
	for _, s := range []string{"0", "00f", "0F", "FF", "0x", "00 ff", "00ffg0", "00ff0g", "\x00\x00", "éé", "00ff\n"} {
		if p, e := base.ReadHex(s); e != api.ErrForm || len(p) != 0 {
			t.Errorf("ReadHex(%q) = %x, %d", s, p, e)
		}
	}
}

func TestP1_AnyTextEnds(t *testing.T) {
	for n := range 300 {
		s := string(sample(n))
		base.Decode(s)
		base.ReadHex(s)
	}
	base.Encode(nil)
	base.Hex(nil)
}

func TestP2_AnswersAreNewMemory(t *testing.T) {
	room := sample(100)
	before := bytes.Clone(room)
	base.Encode(room[:37])
	base.Hex(room[:37])
	if !bytes.Equal(room, before) {
		t.Error("Encode or Hex has changed what was handed in, or its spare room")
	}
	for _, read := range []func() ([]byte, api.Errno){
		func() ([]byte, api.Errno) { return base.Decode(base.Encode(before)) },
		func() ([]byte, api.Errno) { return base.ReadHex(base.Hex(before)) },
	} {
		first, _ := read()
		clear(first[:cap(first)])
		if second, e := read(); e != api.OK || !bytes.Equal(second, before) {
			t.Errorf("an answer shares memory with an earlier one: %x, %d", second, e)
		}
	}
}
