package digest_test

import (
	"bytes"
	"hash/crc32"
	"math"
	"testing"

	"drayage/digest"
)

// sample is bytes of every value, in no plain order.
func sample(size int) []byte {
	b := make([]byte, size)
	n := uint32(1)
	for i := range b {
		n = n*1664525 + 1013904223
		b[i] = byte(n >> 24)
	}
	return b
}

// P2.1
func TestCrc(t *testing.T) {
	for _, c := range []struct {
		b    string
		want uint32
	}{
		{"", 0},
		{"123456789", 0xcbf43926},
		{"a", 0xe8b7be43},
		{"abc", 0x352441c2},
		{"\x00", 0xd202ef8d},
		{"\x00\x00\x00\x00", 0x2144df1c},
		{"\xff\xff\xff\xff", 0xffffffff},
	} {
		if n := digest.Crc([]byte(c.b)); n != c.want {
			t.Errorf("Crc(%q): %08x, not %08x", c.b, n, c.want)
		}
	}
	if n := digest.Crc(nil); n != 0 {
		t.Errorf("Crc of nothing: %08x", n)
	}
}

// P2.1: each byte by itself, and every length up to some blocks.
func TestCrcLikeTheLibrarys(t *testing.T) {
	for c := range 256 {
		b := []byte{byte(c)}
		if n, want := digest.Crc(b), crc32.ChecksumIEEE(b); n != want {
			t.Errorf("Crc(%x): %08x, not %08x", b, n, want)
		}
	}
	all := sample(300)
	for size := range all {
		if n, want := digest.Crc(all[:size]), crc32.ChecksumIEEE(all[:size]); n != want {
			t.Errorf("Crc of %d bytes: %08x, not %08x", size, n, want)
		}
	}
	long := sample(1<<20 + 1)
	if n, want := digest.Crc(long), crc32.ChecksumIEEE(long); n != want {
		t.Errorf("Crc of %d bytes: %08x, not %08x", len(long), n, want)
	}
}

// P2.1: wherever the bytes are cut.
func TestCrcMore(t *testing.T) {
	all := sample(150)
	want := crc32.ChecksumIEEE(all)
	for cut := range len(all) + 1 {
		if n := digest.CrcMore(digest.Crc(all[:cut]), all[cut:]); n != want {
			t.Errorf("cut at %d: %08x, not %08x", cut, n, want)
		}
	}
	n := digest.Crc(nil)
	for i := range all {
		n = digest.CrcMore(n, all[i:i+1])
	}
	if n != want {
		t.Errorf("byte by byte: %08x, not %08x", n, want)
	}
}

// P2.1: every number is the sum of some bytes.
func TestCrcMoreOfAnySum(t *testing.T) {
	sums := []uint32{0, 1, 0xedb88320, 0x7fffffff, 1 << 31, math.MaxUint32}
	for i := range 32 {
		sums = append(sums, 1<<i, ^uint32(1<<i))
	}
	for _, sum := range sums {
		if n := digest.CrcMore(sum, nil); n != sum {
			t.Errorf("CrcMore(%08x, nothing): %08x", sum, n)
		}
		for _, more := range [][]byte{{0}, {0xff}, []byte("123456789"), bytes.Repeat([]byte{0}, 9), sample(99)} {
			if n, want := digest.CrcMore(sum, more), crc32.Update(sum, crc32.IEEETable, more); n != want {
				t.Errorf("CrcMore(%08x, %x): %08x, not %08x", sum, more, n, want)
			}
		}
	}
}
