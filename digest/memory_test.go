package digest_test

import (
	"bytes"
	"testing"

	"drayage/api"
	"drayage/codec"
	"drayage/digest"
)

// takers is each call that takes bytes, and what it answers as bytes.
func takers() map[string]func(b []byte) []byte {
	all := map[string]func(b []byte) []byte{
		"Crc":     func(b []byte) []byte { return codec.Be(uint64(digest.Crc(b)), 4) },
		"CrcMore": func(b []byte) []byte { return codec.Be(uint64(digest.CrcMore(1, b)), 4) },
	}
	for kind := api.Md5; kind <= api.Sha256; kind++ {
		all["Of "+codec.Dec(kind)] = func(b []byte) []byte { return digest.Of(kind, b) }
		all["Write "+codec.Dec(kind)] = func(b []byte) []byte {
			h, _ := digest.New(kind)
			h.Write(b)
			return h.Sum()
		}
	}
	return all
}

// P2.4: what is handed in stays, and so does what lies behind its length, which isn't read, either.
func TestWhatIsHandedInStays(t *testing.T) {
	for name, take := range takers() {
		for size := range 200 {
			was := sample(400)
			b := bytes.Clone(was)
			answer := take(b[:size])
			if !bytes.Equal(b, was) {
				t.Errorf("%s of %d bytes left %x", name, size, b)
			}
			if again := take(b[:size:size]); !bytes.Equal(again, answer) {
				t.Errorf("%s of %d bytes hangs on what lies behind them", name, size)
			}
		}
	}
}

// P2.4: what was written may be written over ahead of the next call.
func TestWriteKeepsNothing(t *testing.T) {
	all := sample(300)
	for kind, sum := range kinds() {
		for _, piece := range []int{1, 30, 63, 64, 65, 100, 150} {
			h := hashOf(t, kind)
			room := make([]byte, piece)
			for at := 0; at < len(all); at += piece {
				n := copy(room, all[at:])
				h.Write(room[:n])
				clear(room)
			}
			if s, want := h.Sum(), sum(all); !bytes.Equal(s, want) {
				t.Errorf("kind %d, pieces of %d: %x, not %x", kind, piece, s, want)
			}
		}
	}
}

// spoil writes over an answer and all the memory that it has.
func spoil(b []byte) {
	b = b[:cap(b)]
	for i := range b {
		b[i] ^= 0x5a
	}
	_ = append(b, 9, 9, 9)
}

// P2.4: an answer may be written over and grown: the next one, one that came ahead, and the hash are as they were.
func TestWhatIsAnsweredIsNew(t *testing.T) {
	all := sample(200)
	for kind, sum := range kinds() {
		h := hashOf(t, kind)
		h.Write(all[:99])
		kept := h.Sum()
		spoil(h.Sum())
		if want := sum(all[:99]); !bytes.Equal(kept, want) || !bytes.Equal(h.Sum(), want) {
			t.Errorf("kind %d: sums share memory", kind)
		}
		h.Write(all[99:])
		if s, want := h.Sum(), sum(all); !bytes.Equal(s, want) {
			t.Errorf("kind %d: written on: %x, not %x", kind, s, want)
		}
		kept = digest.Of(kind, all)
		spoil(digest.Of(kind, all))
		if want := sum(all); !bytes.Equal(kept, want) || !bytes.Equal(digest.Of(kind, all), want) {
			t.Errorf("kind %d: answers of Of share memory", kind)
		}
		// A hash that is made behind all that begins as any.
		if s, want := hashOf(t, kind).Sum(), sum(nil); !bytes.Equal(s, want) {
			t.Errorf("kind %d: a new hash: %x, not %x", kind, s, want)
		}
	}
}
