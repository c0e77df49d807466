package digest_test

import (
	"bytes"
	"testing"

	"drayage/api"
	"drayage/digest"
)

// hashOf is a hash of nothing, of a kind that there is.
func hashOf(t *testing.T, kind int) *digest.Hash {
	t.Helper()
	h, e := digest.New(kind)
	if h == nil || e != api.OK {
		t.Fatalf("New(%d): %v %d", kind, h, e)
	}
	return h
}

// P2.3
func TestNew(t *testing.T) {
	for kind, sum := range kinds() {
		if s, want := hashOf(t, kind).Sum(), sum(nil); !bytes.Equal(s, want) {
			t.Errorf("kind %d, nothing written: %x, not %x", kind, s, want)
		}
	}
	for _, kind := range noKinds {
		if h, e := digest.New(kind); h != nil || e != api.ErrKind {
			t.Errorf("New(%d): %v %d", kind, h, e)
		}
	}
}

// P2.3: wherever what is written is cut, with nothing written now and then.
func TestWriteTwice(t *testing.T) {
	all := sample(200)
	for kind, sum := range kinds() {
		for size := 0; size <= len(all); size += 8 {
			want := sum(all[:size])
			for cut := range size + 1 {
				h := hashOf(t, kind)
				h.Write(nil)
				h.Write(all[:cut])
				h.Write([]byte{})
				h.Write(all[cut:size])
				h.Write(nil)
				if s := h.Sum(); !bytes.Equal(s, want) {
					t.Fatalf("kind %d, %d bytes cut at %d: %x, not %x", kind, size, cut, s, want)
				}
			}
		}
	}
}

// P2.3: in pieces of each size, and the sum is asked behind each of them.
func TestWriteInPieces(t *testing.T) {
	all := sample(700)
	for kind, sum := range kinds() {
		for piece := 1; piece <= 150; piece++ {
			h := hashOf(t, kind)
			for at := 0; at < len(all); at += piece {
				end := min(at+piece, len(all))
				h.Write(all[at:end])
				if s, want := h.Sum(), sum(all[:end]); !bytes.Equal(s, want) {
					t.Fatalf("kind %d, pieces of %d, the first %d bytes: %x, not %x", kind, piece, end, s, want)
				}
			}
		}
	}
}

// P2.3: the sum stays the same, as often as it is asked.
func TestSumAgain(t *testing.T) {
	for kind, sum := range kinds() {
		for _, size := range []int{0, 1, 55, 56, 63, 64, 65, 119, 120, 128} {
			h := hashOf(t, kind)
			h.Write(sample(size))
			want := sum(sample(size))
			for range 3 {
				if s := h.Sum(); !bytes.Equal(s, want) {
					t.Errorf("kind %d, %d bytes: %x, not %x", kind, size, s, want)
				}
			}
		}
	}
}

// P2.3: each hash has its own state.
func TestHashesByTurns(t *testing.T) {
	all := sample(300)
	for kind, sum := range kinds() {
		one, other := hashOf(t, kind), hashOf(t, kind)
		for at := 0; at < len(all); at += 30 {
			one.Write(all[at : at+30])
			other.Write(all[at+10 : at+20])
			other.Sum()
		}
		if s, want := one.Sum(), sum(all); !bytes.Equal(s, want) {
			t.Errorf("kind %d: %x, not %x", kind, s, want)
		}
	}
}
