package hash_test

import (
	"bytes"
	"crypto/sha256"
	"encoding/hex"
	"sync"
	"testing"

	"staddle/hash"
)

// sample is n bytes of which no two pieces of some length are alike.
func sample(n int) []byte {
	p := make([]byte, n)
	x := uint32(1)
	for i := range p {
		x = x*1664525 + 1013904223
		p[i] = byte(x >> 24)
	}
	return p
}

// digest is the bytes of a digest that is told in base 16.
func digest(t *testing.T, s string) [32]byte {
	t.Helper()
	p, err := hex.DecodeString(s)
	if err != nil || len(p) != 32 {
		t.Fatalf("no digest: %s", s)
	}
	return [32]byte(p)
}

func TestP1_1_OfPublishedDigests(t *testing.T) {
	for _, c := range []struct{ text, want string }{
		{"", "e3b0c44298fc1c149afbf4c8996fb92427ae41e4649b934ca495991b7852b855"},
		{"abc", "ba7816bf8f01cfea414140de5dae2223b00361a396177a9cb410ff61f20015ad"},
		{"abcdbcdecdefdefgefghfghighijhijkijkljklmklmnlmnomnopnopq", "248d6a61d20638b8e5c026930c3e6039a33ce45964ff2167f6ecedd419db06c1"},
	} {
		if d := hash.Of([]byte(c.text)); d != digest(t, c.want) {
			t.Errorf("Of(%q) = %x", c.text, d)
		}
	}
	million := digest(t, "cdc76e5c9914fb9281a1c7e284d73e67f1809a48a497200e046d39ccc7112cd0")
	if d := hash.Of(bytes.Repeat([]byte("a"), 1000000)); d != million {
		t.Errorf("Of(a million a) = %x", d)
	}
}

func TestP1_1_OfEveryLength(t *testing.T) {
	p := sample(400)
	for n := range len(p) + 1 {
		if d := hash.Of(p[:n]); d != sha256.Sum256(p[:n]) {
			t.Errorf("Of(%d bytes) = %x", n, d)
		}
	}
	for _, b := range []byte{0x00, 0x80, 0xff} {
		q := bytes.Repeat([]byte{b}, 1000)
		if hash.Of(q) != sha256.Sum256(q) {
			t.Errorf("Of(%#x 1000 times) is wrong", b)
		}
	}
}

func TestP1_1_WriteInAnyPieces(t *testing.T) {
	p := sample(300)
	want := sha256.Sum256(p)
	for first := range len(p) + 1 {
		for _, second := range []int{first, (first + len(p)) / 2, len(p)} {
			h := hash.New()
			h.Write(p[:first])
			h.Write(p[first:second])
			h.Write(p[second:])
			if h.Sum() != want || h.Len() != uint64(len(p)) {
				t.Fatalf("pieces at %d and %d: %x, %d bytes", first, second, h.Sum(), h.Len())
			}
		}
	}
	for size := 1; size <= 130; size++ {
		h := hash.New()
		for q := p; len(q) > 0; {
			n := min(size, len(q))
			h.Write(q[:n])
			q = q[n:]
		}
		if h.Sum() != want {
			t.Errorf("pieces of %d bytes: %x", size, h.Sum())
		}
	}
}

func TestP1_1_SumAndMore(t *testing.T) {
	p := sample(200)
	h := hash.New()
	for n := range len(p) {
		if h.Len() != uint64(n) {
			t.Fatalf("Len = %d behind %d bytes", h.Len(), n)
		}
		if h.Sum() != sha256.Sum256(p[:n]) || h.Sum() != sha256.Sum256(p[:n]) {
			t.Fatalf("Sum behind %d bytes is wrong", n)
		}
		if h.Len() != uint64(n) {
			t.Fatalf("Sum has changed Len to %d behind %d bytes", h.Len(), n)
		}
		h.Write(p[n : n+1])
	}
}

func TestP1_1_NothingTaken(t *testing.T) {
	h := hash.New()
	h.Write(nil)
	h.Write([]byte{})
	if h.Len() != 0 || h.Sum() != sha256.Sum256(nil) || hash.Of(nil) != sha256.Sum256(nil) {
		t.Errorf("nothing: %d bytes, %x", h.Len(), h.Sum())
	}
	if hash.New() == h {
		t.Error("New has answered the same hasher twice")
	}
}

func TestP1_NilHasher(t *testing.T) {
	var h *hash.Hasher
	h.Write([]byte("abc"))
	h.Write(nil)
	if h.Len() != 0 || h.Sum() != [32]byte{} {
		t.Errorf("nil: %d bytes, %x", h.Len(), h.Sum())
	}
}

func TestP1_ZeroHasherEnds(t *testing.T) {
	var h hash.Hasher
	h.Write(sample(1000))
	h.Len()
	h.Sum()
}

func TestP1_2_Fold(t *testing.T) {
	for i := range 32 {
		for bit := range 8 {
			var d [32]byte
			var want [20]byte
			d[i] = 1 << bit
			want[i%20] = 1 << bit
			if f := hash.Fold(d); f != want {
				t.Errorf("Fold of the bit %d of the byte %d: %x", bit, i, f)
			}
		}
	}
	d := [32]byte(sample(32))
	f := hash.Fold(d)
	for i := range 20 {
		want := d[i]
		if i < 12 {
			want ^= d[20+i]
		}
		if f[i] != want {
			t.Errorf("the byte %d of Fold is %#x, and not %#x", i, f[i], want)
		}
	}
	if hash.Fold([32]byte{}) != [20]byte{} {
		t.Error("Fold of noughts isn't noughts")
	}
	d[3], d[23] = 0x5a, 0x5a
	if hash.Fold(d)[3] != 0 {
		t.Error("two bytes that are alike don't cancel out")
	}
}

func TestP2_HashersApart(t *testing.T) {
	p, q := sample(150), bytes.Repeat([]byte("q"), 150)
	a, b := hash.New(), hash.New()
	for i := range len(p) {
		a.Write(p[i : i+1])
		b.Write(q[i : i+1])
		hash.Of(p[:i])
	}
	if a.Sum() != sha256.Sum256(p) || b.Sum() != sha256.Sum256(q) {
		t.Error("two hashers that are used by turns disturb each other")
	}
	var wait sync.WaitGroup
	sums := make([][32]byte, 16)
	for i := range len(sums) {
		wait.Go(func() { sums[i] = hash.Of(p[:i*9]) })
	}
	wait.Wait()
	for i := range len(sums) {
		if sums[i] != sha256.Sum256(p[:i*9]) {
			t.Errorf("Of beside others: %d bytes are wrong", i*9)
		}
	}
}

func TestP2_WhatIsHandedInStays(t *testing.T) {
	room := sample(200)
	before := bytes.Clone(room)
	p := room[:70]
	h := hash.New()
	h.Write(p)
	h.Sum()
	hash.Of(p)
	if !bytes.Equal(room, before) {
		t.Error("Write, Sum or Of has changed what was handed in, or its spare room")
	}
	clear(room)
	if h.Sum() != sha256.Sum256(before[:70]) {
		t.Error("a hasher has kept what was handed in")
	}
}
