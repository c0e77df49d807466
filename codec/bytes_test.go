package codec_test

import (
	"bytes"
	"encoding/binary"
	"math"
	"testing"

	"drayage/codec"
)

var numbers = []uint64{0, 1, 2, 127, 128, 255, 256, 258, 65535, 65536, 1<<32 - 1, 1 << 32, 1 << 63, math.MaxUint64, 0x0102030405060708, 0xf1e2d3c4b5a69788}

// P1.6
func TestBytesOfNumbers(t *testing.T) {
	for _, n := range numbers {
		for size := 1; size <= 8; size++ {
			be := binary.BigEndian.AppendUint64(nil, n)[8-size:]
			le := binary.LittleEndian.AppendUint64(nil, n)[:size]
			if b := codec.Be(n, size); !bytes.Equal(b, be) {
				t.Errorf("Be(%x, %d): %x, not %x", n, size, b, be)
			}
			if b := codec.Le(n, size); !bytes.Equal(b, le) {
				t.Errorf("Le(%x, %d): %x, not %x", n, size, b, le)
			}
		}
	}
	if b := codec.Be(258, 2); string(b) != "\x01\x02" {
		t.Errorf("Be(258, 2): %x", b)
	}
	if b := codec.Le(258, 2); string(b) != "\x02\x01" {
		t.Errorf("Le(258, 2): %x", b)
	}
}

// P1.6
func TestBytesOfNoSize(t *testing.T) {
	for _, size := range []int{0, -1, 9, 16, math.MinInt, math.MaxInt} {
		if be, le := codec.Be(1, size), codec.Le(1, size); len(be) != 0 || len(le) != 0 {
			t.Errorf("size %d: %x %x", size, be, le)
		}
	}
}

// P1.6
func TestNumbersOfBytes(t *testing.T) {
	for _, n := range numbers {
		for size := 1; size <= 8; size++ {
			low := n << (64 - 8*size) >> (64 - 8*size)
			for at := range 4 {
				be := append(append(bytes.Repeat([]byte{0xee}, at), codec.Be(n, size)...), 0xdd)
				le := append(append(bytes.Repeat([]byte{0xee}, at), codec.Le(n, size)...), 0xdd)
				// With what stands behind, and with nothing there.
				for cut := range 2 {
					if m, is := codec.GetBe(be[:len(be)-cut], at, size); m != low || !is {
						t.Errorf("GetBe(%x, %d, %d): %x %t, not %x", be, at, size, m, is, low)
					}
					if m, is := codec.GetLe(le[:len(le)-cut], at, size); m != low || !is {
						t.Errorf("GetLe(%x, %d, %d): %x %t, not %x", le, at, size, m, is, low)
					}
				}
			}
		}
	}
}

// P1.6
func TestNumbersOfNoBytes(t *testing.T) {
	eight := []byte{1, 2, 3, 4, 5, 6, 7, 8}
	long := bytes.Repeat([]byte{1}, 99)
	for _, c := range []struct {
		b        []byte
		at, size int
	}{
		{nil, 0, 1},
		{[]byte{}, 0, 1},
		{eight, 0, 0},
		{eight, 0, -1},
		{long, 0, 9},
		{eight, 0, math.MinInt},
		{eight, 0, math.MaxInt},
		{eight, -1, 1},
		{eight, -1, 8},
		{eight, math.MinInt, 8},
		{eight, 8, 1},
		{eight, 7, 2},
		{eight, 1, 8},
		{eight, 9, 1},
		{eight, math.MaxInt, 1},
		{eight, math.MaxInt, 8},
		{eight, math.MaxInt - 7, 8},
		{eight, math.MaxInt, math.MaxInt},
		// What lies behind the length isn't there.
		{eight[:4], 0, 5},
		{eight[:4], 4, 1},
	} {
		if n, is := codec.GetBe(c.b, c.at, c.size); n != 0 || is {
			t.Errorf("GetBe(%x, %d, %d): %x %t", c.b, c.at, c.size, n, is)
		}
		if n, is := codec.GetLe(c.b, c.at, c.size); n != 0 || is {
			t.Errorf("GetLe(%x, %d, %d): %x %t", c.b, c.at, c.size, n, is)
		}
	}
}
