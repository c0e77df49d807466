package deflate_test

import (
	"math/rand/v2"
	"testing"

	"drayage/deflate"
)

// P5.1: codes of which a row would be deeper than may be, had it its way: each letter comes as often as the two ahead of it together.
func TestDeepCodes(t *testing.T) {
	random := rand.New(rand.NewPCG(11, 12))
	for kinds := 2; kinds <= 24; kinds++ {
		var b []byte
		one, two := 1, 1
		for c := range kinds {
			for range one {
				b = append(b, byte(c*10))
			}
			one, two = two, one+two
		}
		random.Shuffle(len(b), func(i, k int) { b[i], b[k] = b[k], b[i] })
		check(t, "deep codes", b, deflate.Dynamic)
	}
}

// P5.1: letters that stand far from each other and near, so that all tellers come, for all numbers of noughts and of the same lengths.
func TestTellers(t *testing.T) {
	for gap := 1; gap <= 150; gap++ {
		for _, many := range []int{1, 2, 3, 5, 8, 12} {
			var b []byte
			for c := 0; c < 256; c += gap {
				for i := range min(many, 256-c) {
					b = append(b, byte(c+i))
				}
				c += many
			}
			check(t, "tellers", b, deflate.Dynamic)
		}
	}
}

// P5.1: short texts of no order, of which each has codes of its own.
func TestCodes(t *testing.T) {
	random := rand.New(rand.NewPCG(13, 14))
	for range 4000 {
		b := make([]byte, random.IntN(900))
		kinds, bend := 1+random.IntN(256), 1+random.IntN(4)
		for i := range b {
			c := kinds
			for range bend {
				c = 1 + random.IntN(c)
			}
			b[i] = byte(c - 1)
		}
		check(t, "codes", b, deflate.Dynamic)
	}
}
