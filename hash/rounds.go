package hash

import "math/bits"

const rounds = 64

// primes is the first primes, one for each round.
var primes = [rounds]uint64{
	2, 3, 5, 7, 11, 13, 17, 19, 23, 29, 31, 37, 41, 43, 47, 53,
	59, 61, 67, 71, 73, 79, 83, 89, 97, 101, 103, 107, 109, 113, 127, 131,
	137, 139, 149, 151, 157, 163, 167, 173, 179, 181, 191, 193, 197, 199, 211, 223,
	227, 229, 233, 239, 241, 251, 257, 263, 269, 271, 277, 281, 283, 293, 307, 311,
}

// makeWords: the words of the rounds: of the cube roots of the primes the first 32 bits behind the point.
func (h *Hasher) makeWords() {
	// From the greatest prime on, as each root is a near upper bound of the next one.
	root := uint64(7) << 32
	for i := range rounds {
		at := rounds - 1 - i
		root = cubeRoot(primes[at], root)
		h.words[at] = uint32(root)
	}
}

// cubeRoot: the greatest number whose cube is at most p * 2^96, by Newton's way, down from a number that is greater. (Whole numbers, so that the words are the same on every machine.)
func cubeRoot(p, above uint64) uint64 {
	root := above
	for {
		high, low := bits.Mul64(root, root)
		square := high<<58 | low>>6 // without its last 6 bits it fits into 64
		quotient, _ := bits.Div64(p<<26, 0, square)
		next := (2*root + quotient) / 3
		if next >= root {
			return root
		}
		root = next
	}
}

// mixed: a state behind one block more.
func (h *Hasher) mixed(state [8]uint32, block []byte) [8]uint32 {
	h.once.Do(h.makeWords)
	plan := schedule(block)
	// Eight variables, and not an array: this loop is where nearly all the time goes.
	s, t, u, v, w, x, y, z := state[0], state[1], state[2], state[3], state[4], state[5], state[6], state[7]
	for i := range rounds {
		choice := w&x ^ ^w&y
		first := z + turned(w, 6, 11, 25) + choice + h.words[i] + plan[i]
		majority := s&t ^ s&u ^ t&u
		second := turned(s, 2, 13, 22) + majority
		s, t, u, v, w, x, y, z = first+second, s, t, u, v+first, w, x, y
	}
	return [8]uint32{
		state[0] + s, state[1] + t, state[2] + u, state[3] + v,
		state[4] + w, state[5] + x, state[6] + y, state[7] + z,
	}
}

// schedule: the words of a block, and those that are made of them, one for each round.
func schedule(block []byte) [rounds]uint32 {
	var w [rounds]uint32
	for i := range rounds {
		if i < 16 {
			b := block[4*i : 4*i+4]
			w[i] = uint32(b[0])<<24 | uint32(b[1])<<16 | uint32(b[2])<<8 | uint32(b[3])
			continue
		}
		a, b := w[i-15], w[i-2]
		small := bits.RotateLeft32(a, -7) ^ bits.RotateLeft32(a, -18) ^ a>>3
		great := bits.RotateLeft32(b, -17) ^ bits.RotateLeft32(b, -19) ^ b>>10
		w[i] = w[i-16] + small + w[i-7] + great
	}
	return w
}

// turned: a word turned to the right by a, by b and by c bits, one over the other.
func turned(x uint32, a, b, c int) uint32 {
	return bits.RotateLeft32(x, -a) ^ bits.RotateLeft32(x, -b) ^ bits.RotateLeft32(x, -c)
}
