package huff_test

import (
	"bytes"
	"math"
	"math/rand/v2"
	"testing"

	"drayage/huff"
)

// wrote tells if a writer has just these bits.
func wrote(w *huff.Writer, bits string) bool {
	return w.Len() == len(bits) && bytes.Equal(w.Bytes(), bytesOf(bits))
}

// writerOf is a writer that has these bits.
func writerOf(bits string) *huff.Writer {
	w := huff.NewWriter()
	for i := range bits {
		w.Put(int(bits[i]-'0'), 1)
	}
	return w
}

// lowest is the lowest n bits of v, the lowest one first.
func lowest(v, n int) string {
	return bitsOf([]byte{byte(v), byte(v >> 8), byte(v >> 16)})[:n]
}

var numbers = []int{0, 1, 2, 5, 0x95, 0xff, 0x100, 0xa5c3, 0x123456, 0xffffff, 0x1000000, 0x7edcba98, -1, -2, -0x123457, math.MaxInt, math.MinInt, math.MinInt + 0x5a5a5a}

// P3.2: the example.
func TestPutOfTheExample(t *testing.T) {
	w := huff.NewWriter()
	w.Put(1, 1)
	w.Put(2, 2)
	w.Put(0, 1)
	w.Put(9, 4)
	if b := w.Bytes(); len(b) != 1 || b[0] != 0x95 || w.Len() != 8 {
		t.Errorf("%x, %d bits", b, w.Len())
	}
}

// P3.2
func TestWriterWithoutBits(t *testing.T) {
	w := huff.NewWriter()
	w.Align()
	w.Raw(nil)
	w.Put(1, 0)
	if b := w.Bytes(); len(b) != 0 || w.Len() != 0 {
		t.Errorf("%x, %d bits", b, w.Len())
	}
}

// P3.2: behind bits of each count numbers of each size.
func TestPut(t *testing.T) {
	for had := range 18 {
		ahead := "101100111000111101"[:had]
		for _, v := range numbers {
			for n := range 25 {
				w := writerOf(ahead)
				w.Put(v, n)
				if bits := ahead + lowest(v, n); !wrote(w, bits) {
					t.Errorf("Put(%x, %d) behind %s: %x, %d bits, not %s", v, n, ahead, w.Bytes(), w.Len(), bits)
				}
			}
			for _, n := range []int{-1, 25, 26, 32, 64, math.MinInt, math.MaxInt} {
				w := writerOf(ahead)
				if w.Put(v, n); !wrote(w, ahead) {
					t.Errorf("Put(%x, %d) behind %s: %x, %d bits", v, n, ahead, w.Bytes(), w.Len())
				}
			}
		}
	}
}

// P3.2
func TestWriterAlignsAndRaw(t *testing.T) {
	for had := range 18 {
		ahead := "111111111111111111"[:had]
		w := writerOf(ahead)
		for range 2 {
			if w.Align(); !wrote(w, filledUp(ahead)) {
				t.Errorf("Align behind %d bits: %x, %d bits", had, w.Bytes(), w.Len())
			}
		}
		for size := range len(some) + 1 {
			w := writerOf(ahead)
			bits := filledUp(ahead) + bitsOf(some[:size])
			if w.Raw(some[:size]); !wrote(w, bits) {
				t.Errorf("Raw(%x) behind %d bits: %x, %d bits", some[:size], had, w.Bytes(), w.Len())
			}
			// What comes behind stands at a byte's first bit.
			if w.Put(1, 1); !wrote(w, bits+"1") {
				t.Errorf("Put behind Raw(%x) behind %d bits: %x, %d bits", some[:size], had, w.Bytes(), w.Len())
			}
		}
	}
}

// P3.3: a row's first bit comes first; of what is no row the lowest bits.
func TestCode(t *testing.T) {
	for had := range 18 {
		ahead := "010011000111000010"[:had]
		for _, v := range numbers {
			for n := range 16 {
				w := writerOf(ahead)
				w.Code(v, n)
				if bits := ahead + turned(lowest(v, n)); !wrote(w, bits) {
					t.Errorf("Code(%x, %d) behind %s: %x, %d bits, not %s", v, n, ahead, w.Bytes(), w.Len(), bits)
				}
			}
			for _, n := range []int{-1, 16, 17, 24, 64, math.MinInt, math.MaxInt} {
				w := writerOf(ahead)
				if w.Code(v, n); !wrote(w, ahead) {
					t.Errorf("Code(%x, %d) behind %s: %x, %d bits", v, n, ahead, w.Bytes(), w.Len())
				}
			}
		}
	}
}

// P3.2, P3.3: many calls one behind the other, of one writer.
func TestWriterGoesOn(t *testing.T) {
	random := rand.New(rand.NewPCG(5, 6))
	w := huff.NewWriter()
	bits := ""
	for range 2000 {
		switch v, n := int(random.Uint64()), random.IntN(25); random.IntN(6) {
		case 0:
			w.Align()
			bits = filledUp(bits)
		case 1:
			b := some[:n%len(some)]
			w.Raw(b)
			bits = filledUp(bits) + bitsOf(b)
		case 2:
			n %= 16
			w.Code(v, n)
			bits += turned(lowest(v, n))
		default:
			w.Put(v, n)
			bits += lowest(v, n)
		}
		if w.Len() != len(bits) {
			t.Fatalf("%d bits, not %d", w.Len(), len(bits))
		}
	}
	if !wrote(w, bits) {
		t.Errorf("%x", w.Bytes())
	}
}
