package huff_test

import (
	"bytes"
	"math"
	"math/rand/v2"
	"strconv"
	"testing"

	"drayage/huff"
)

// numberOf is the number of bits, the lowest one first.
func numberOf(bits string) int {
	if bits == "" {
		return 0
	}
	n, _ := strconv.ParseInt(turned(bits), 2, 64)
	return int(n)
}

// readerAt is a reader behind so many bits.
func readerAt(b []byte, at int) *huff.Reader {
	r := huff.NewReader(b)
	for range at {
		r.Take(1)
	}
	return r
}

var some = []byte{0x95, 0x01, 0x07, 0xc3, 0xff, 0x00, 0x5a}

// P3.1: from each place numbers of each size.
func TestTake(t *testing.T) {
	bits := bitsOf(some)
	for at := range len(bits) + 1 {
		for n := -2; n <= 26; n++ {
			r := readerAt(some, at)
			if r.At() != at {
				t.Fatalf("behind %d bits: %d", at, r.At())
			}
			want, is, behind := 0, false, at
			if n >= 0 && n <= 24 && n <= len(bits)-at {
				want, is, behind = numberOf(bits[at:at+n]), true, at+n
			}
			if v, ok := r.Take(n); v != want || ok != is || r.At() != behind {
				t.Errorf("Take(%d) at %d: %d %t, then at %d, not %d %t %d", n, at, v, ok, r.At(), want, is, behind)
			}
		}
	}
}

// P3.1: a reader that refused stays, and reads on.
func TestTakeRefusesAndStays(t *testing.T) {
	for _, n := range []int{-1, 25, 32, 64, math.MinInt, math.MaxInt} {
		r := readerAt(some, 3)
		if v, ok := r.Take(n); v != 0 || ok || r.At() != 3 {
			t.Errorf("Take(%d): %d %t, then at %d", n, v, ok, r.At())
		}
		if v, ok := r.Take(5); v != 0x95>>3 || !ok || r.At() != 8 {
			t.Errorf("Take(5) behind Take(%d): %d %t", n, v, ok)
		}
	}
	r := huff.NewReader(some[:2])
	if v, ok := r.Take(17); v != 0 || ok || r.At() != 0 {
		t.Errorf("Take(17) of 16 bits: %d %t, then at %d", v, ok, r.At())
	}
	if v, ok := r.Take(16); v != 0x0195 || !ok {
		t.Errorf("Take(16): %x %t", v, ok)
	}
	if v, ok := r.Take(0); v != 0 || !ok || r.At() != 16 {
		t.Errorf("Take(0) at the end: %d %t", v, ok)
	}
	if v, ok := r.Take(1); v != 0 || ok || r.At() != 16 {
		t.Errorf("Take(1) at the end: %d %t", v, ok)
	}
}

// P3.1
func TestReaderOfNothing(t *testing.T) {
	for _, b := range [][]byte{nil, {}, some[:0]} {
		r := huff.NewReader(b)
		r.Align()
		if _, ok := r.Take(1); ok || r.At() != 0 {
			t.Errorf("Take(1) of nothing, at %d", r.At())
		}
		if _, ok := r.Take(0); !ok {
			t.Error("Take(0) of nothing")
		}
		if got, ok := r.Bytes(0); len(got) != 0 || !ok {
			t.Errorf("Bytes(0) of nothing: %x %t", got, ok)
		}
		if got, ok := r.Bytes(1); len(got) != 0 || ok || r.At() != 0 {
			t.Errorf("Bytes(1) of nothing: %x %t", got, ok)
		}
	}
}

// P3.1
func TestReaderAligns(t *testing.T) {
	for at := range 8*len(some) + 1 {
		r := readerAt(some, at)
		want := len(filledUp(bitsOf(some)[:at]))
		for range 2 {
			if r.Align(); r.At() != want {
				t.Errorf("Align at %d: at %d, not %d", at, r.At(), want)
			}
		}
	}
}

// P3.1: from each place each count of bytes; the reader is at a byte's first bit, whatever is answered.
func TestBytesOfReader(t *testing.T) {
	for at := range 8*len(some) + 1 {
		for _, n := range []int{math.MinInt, -1, 0, 1, 2, 3, 4, 5, 6, 7, 8, math.MaxInt/8 + 1, math.MaxInt} {
			r := readerAt(some, at)
			from := (at + 7) / 8
			var want []byte
			is := n >= 0 && n <= len(some)-from
			behind := 8 * from
			if is {
				want = some[from : from+n]
				behind += 8 * n
			}
			if b, ok := r.Bytes(n); !bytes.Equal(b, want) || ok != is || r.At() != behind {
				t.Errorf("Bytes(%d) at %d: %x %t, then at %d, not %x %t %d", n, at, b, ok, r.At(), want, is, behind)
			}
		}
	}
}

// P3.1: many calls one behind the other, of one reader.
func TestReaderGoesOn(t *testing.T) {
	random := rand.New(rand.NewPCG(1, 2))
	all := make([]byte, 999)
	for i := range all {
		all[i] = byte(random.Int())
	}
	bits := bitsOf(all)
	r := huff.NewReader(all)
	at := 0
	for at < len(bits)-64 {
		switch n := random.IntN(25); random.IntN(6) {
		case 0:
			r.Align()
			at = (at + 7) / 8 * 8
		case 1:
			n %= 4
			from := (at + 7) / 8
			if b, ok := r.Bytes(n); !bytes.Equal(b, all[from:from+n]) || !ok {
				t.Fatalf("Bytes(%d) at %d: %x %t", n, at, b, ok)
			}
			at = 8 * (from + n)
		default:
			if v, ok := r.Take(n); v != numberOf(bits[at:at+n]) || !ok {
				t.Fatalf("Take(%d) at %d: %d %t", n, at, v, ok)
			}
			at += n
		}
		if r.At() != at {
			t.Fatalf("at %d, not %d", r.At(), at)
		}
	}
}
