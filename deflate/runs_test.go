package deflate_test

import (
	"bytes"
	"slices"
	"strconv"
	"testing"

	"drayage/deflate"
)

// P5.1: runs of each length, from near and from far.
func TestLengths(t *testing.T) {
	for _, back := range []int{1, 2, 3, 258, 259, 300, 4097} {
		ahead := lettersOf(back, 256)
		for length := 1; length <= 520; length++ {
			b := slices.Clone(ahead)
			for range length {
				b = append(b, b[len(b)-back])
			}
			b = append(b, ahead[0]^b[len(b)-back])
			for _, how := range []int{deflate.Fixed, deflate.Dynamic} {
				if x := check(t, "length", b, how); back < 4 && len(x) > 40 {
					t.Errorf("a run of %d from %d by %d: %d bytes", length, back, how, len(x))
				}
			}
		}
	}
}

// distances is how far back may be copied, around all that makes another symbol of it.
func distances() []int {
	var all []int
	for k := range 16 {
		for _, from := range []int{1 << k, 3 << k >> 1} {
			for back := from - 2; back <= from+2; back++ {
				if back > 0 {
					all = append(all, back)
				}
			}
		}
	}
	slices.Sort(all)
	return slices.Compact(all)
}

// P5.1: runs from each distance, also from beyond the greatest one, and at the text's end.
func TestDistances(t *testing.T) {
	for _, back := range distances() {
		for _, length := range []int{3, 4, 30} {
			b := lettersOf(back, 256)
			for range length {
				b = append(b, b[len(b)-back])
			}
			what := strconv.Itoa(length) + " from " + strconv.Itoa(back)
			for _, end := range []string{"", "#+?"} {
				b := append(slices.Clone(b), end...)
				check(t, what, b, deflate.Fixed)
				check(t, what, b, deflate.Dynamic)
			}
		}
	}
}

// P5.1: what comes again lies right at the farthest place, or one beyond, wherever the text's places stand.
func TestFarthest(t *testing.T) {
	for _, ahead := range []int{0, 1, 2, 3, 5, 32767, 32768, 32769, 40000} {
		for _, between := range []int{32768 - 11, 32768 - 10, 32768 - 9, 32768} {
			b := lettersOf(ahead, 200)
			b = append(b, "0123456789"...)
			b = append(b, lettersOf(between, 200)...)
			b = append(b, "0123456789"...)
			checkAll(t, "farthest", bytes.Join([][]byte{b, b[ahead : ahead+300]}, nil))
		}
	}
}

// P5.1: the same three bytes at all places, with others between.
func TestSameStarts(t *testing.T) {
	for _, every := range []int{3, 4, 5, 64, 129} {
		b := lettersOf(90000, 90)
		for at := 0; at+3 < len(b); at += every {
			copy(b[at:], "xyz")
		}
		checkAll(t, "same starts", b)
	}
}
