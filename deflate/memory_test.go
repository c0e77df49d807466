package deflate_test

import (
	"bytes"
	"testing"

	"drayage/api"
	"drayage/deflate"
)

// spoil writes over bytes and all the memory that they have, and grows them.
func spoil(b []byte) {
	b = b[:cap(b)]
	for i := range b {
		b[i] ^= 0x5a
	}
	_ = append(b, 9, 9, 9)
}

// P5.4: what is handed in stays, also what lies behind its length, which isn't read.
func TestBytesStay(t *testing.T) {
	was := append(status(3000), lettersOf(3000, 3)...)
	for _, how := range ways() {
		for _, n := range []int{0, 1, 2, 3, 10, 299, 2999, 3500, 5990, 5999, 6000} {
			b := bytes.Clone(was)
			x, e := deflate.Deflate(b[:n], how)
			if !bytes.Equal(b, was) {
				t.Errorf("by %d: %d bytes of %d aren't left as they were", how, n, len(was))
			}
			spoil(b[n:])
			other, f := deflate.Deflate(b[:n], how)
			alone, g := deflate.Deflate(bytes.Clone(was[:n]), how)
			if !bytes.Equal(x, alone) || !bytes.Equal(other, alone) || e != api.OK || f != api.OK || g != api.OK {
				t.Errorf("by %d: %d bytes are packed otherwise if others lie behind: %d %d %d", how, n, e, f, g)
			}
		}
	}
}

// P5.4: an answer may be written over and grown, and so may what was handed in: nothing else changes by it.
func TestAnswersAreNew(t *testing.T) {
	for _, text := range [][]byte{nil, []byte("a"), status(2000), lettersOf(70000, 256)} {
		for _, how := range ways() {
			b := bytes.Clone(text)
			kept, _ := deflate.Deflate(b, how)
			want := bytes.Clone(kept)
			other, _ := deflate.Deflate(b, how)
			spoil(other)
			if !bytes.Equal(b, text) || !bytes.Equal(kept, want) {
				t.Errorf("by %d: an answer of %d bytes shares memory", how, len(text))
			}
			if again, e := deflate.Deflate(b, how); !bytes.Equal(again, want) || e != api.OK {
				t.Errorf("by %d: %d bytes are packed otherwise again: %d", how, len(text), e)
			}
			spoil(b)
			if !bytes.Equal(kept, want) {
				t.Errorf("by %d: an answer of %d bytes changes by what was handed in", how, len(text))
			}
		}
	}
}
