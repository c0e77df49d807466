package digest

import (
	"math/bits"

	"drayage/api"
	"drayage/codec"
)

const md5Steps = 64

// md5Turns is how far the steps turn, a row for each sixteen of them.
var md5Turns = [4][4]int{
	{7, 12, 17, 22},
	{5, 9, 14, 20},
	{4, 11, 16, 23},
	{6, 10, 15, 21},
}

// takeMd5 puts a block into the four numbers.
func takeMd5(state []uint32, block []byte) {
	var w [blockWords]uint32
	for i := range blockWords {
		n, _ := codec.GetLe(block, i*wordSize, wordSize)
		w[i] = uint32(n)
	}
	a, b, c, d := state[0], state[1], state[2], state[3]
	for i := range md5Steps {
		f, g := md5Mix(i, b, c, d)
		turned := bits.RotateLeft32(a+f+api.Md5Table[i]+w[g], md5Turns[i/16][i%4])
		a, b, c, d = d, b+turned, b, c
	}
	add(state, a, b, c, d)
}

// md5Mix is what a step mixes of the numbers, and which word it adds.
func md5Mix(i int, b, c, d uint32) (uint32, int) {
	switch i / 16 {
	case 0:
		return b&c | ^b&d, i
	case 1:
		return d&b | ^d&c, (5*i + 1) % 16
	case 2:
		return b ^ c ^ d, (3*i + 5) % 16
	}
	return c ^ (b | ^d), 7 * i % 16
}
