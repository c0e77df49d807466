package digest

import (
	"math/bits"

	"drayage/api"
	"drayage/codec"
)

const sha256Steps = 64

// takeSha256 puts a block into the eight numbers.
func takeSha256(state []uint32, block []byte) {
	var w [sha256Steps]uint32
	putWords(w[:], block)
	for i := blockWords; i < sha256Steps; i++ {
		s0 := right(w[i-15], 7) ^ right(w[i-15], 18) ^ w[i-15]>>3
		s1 := right(w[i-2], 17) ^ right(w[i-2], 19) ^ w[i-2]>>10
		w[i] = w[i-16] + s0 + w[i-7] + s1
	}
	a, b, c, d := state[0], state[1], state[2], state[3]
	e, f, g, h := state[4], state[5], state[6], state[7]
	for i := range sha256Steps {
		t1 := h + (right(e, 6) ^ right(e, 11) ^ right(e, 25)) + (e&f ^ ^e&g) + api.ShaTable[i] + w[i]
		t2 := (right(a, 2) ^ right(a, 13) ^ right(a, 22)) + (a&b ^ a&c ^ b&c)
		a, b, c, d, e, f, g, h = t1+t2, a, b, c, d+t1, e, f, g
	}
	add(state, a, b, c, d, e, f, g, h)
}

// right is x turned right by k.
func right(x uint32, k int) uint32 {
	return bits.RotateLeft32(x, -k)
}

// putWords puts a block's words, the highest byte of each first, at the beginning of w.
func putWords(w []uint32, block []byte) {
	for i := range blockWords {
		n, _ := codec.GetBe(block, i*wordSize, wordSize)
		w[i] = uint32(n)
	}
}
