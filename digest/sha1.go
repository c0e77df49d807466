package digest

import "math/bits"

const sha1Steps = 80

// takeSha1 puts a block into the five numbers.
func takeSha1(state []uint32, block []byte) {
	var w [sha1Steps]uint32
	putWords(w[:], block)
	for i := blockWords; i < sha1Steps; i++ {
		w[i] = bits.RotateLeft32(w[i-3]^w[i-8]^w[i-14]^w[i-16], 1)
	}
	a, b, c, d, e := state[0], state[1], state[2], state[3], state[4]
	for i := range sha1Steps {
		f, k := sha1Mix(i, b, c, d)
		sum := bits.RotateLeft32(a, 5) + f + e + k + w[i]
		a, b, c, d, e = sum, a, bits.RotateLeft32(b, 30), c, d
	}
	add(state, a, b, c, d, e)
}

// sha1Mix is what a step mixes of the numbers, and what else it adds.
func sha1Mix(i int, b, c, d uint32) (uint32, uint32) {
	switch i / 20 {
	case 0:
		return b&c | ^b&d, 0x5a827999
	case 1:
		return b ^ c ^ d, 0x6ed9eba1
	case 2:
		return b&c | b&d | c&d, 0x8f1bbcdc
	}
	return b ^ c ^ d, 0xca62c1d6
}
