package codec_test

import (
	"bytes"
	"encoding/hex"
	"fmt"
	"math"
	"strings"
	"testing"

	"drayage/api"
	"drayage/codec"
)

// allBytes is each byte once.
func allBytes() []byte {
	b := make([]byte, 256)
	for i := range b {
		b[i] = byte(i)
	}
	return b
}

// P1.1
func TestHex(t *testing.T) {
	for _, c := range []struct {
		b []byte
		s string
	}{
		{nil, ""},
		{[]byte{}, ""},
		{[]byte{0}, "00"},
		{[]byte{0x0a, 0xff}, "0aff"},
		{[]byte{0x12, 0x9a, 0xbc, 0xde, 0xf0}, "129abcdef0"},
		{allBytes(), hex.EncodeToString(allBytes())},
	} {
		if s := codec.Hex(c.b); s != c.s {
			t.Errorf("Hex(%x): %q, not %q", c.b, s, c.s)
		}
		if b, e := codec.Unhex(c.s); !bytes.Equal(b, c.b) || e != api.OK {
			t.Errorf("Unhex(%q): %x %d, not %x", c.s, b, e, c.b)
		}
	}
}

// P1.1
func TestUnhexRefuses(t *testing.T) {
	for _, c := range []struct {
		s string
		e api.Errno
	}{
		{"0", api.ErrShort},
		{"abc", api.ErrShort},
		{strings.Repeat("0", 999), api.ErrShort},
		{"0aF0", api.ErrForm},
		{"A0", api.ErrForm},
		{"0 ", api.ErrForm},
		{" 0", api.ErrForm},
		{"0x00", api.ErrForm},
		{"00\x00\x00", api.ErrForm},
		// Both hold: the form is looked for first, in the last byte, too.
		{"g", api.ErrForm},
		{"00g", api.ErrForm},
		{"g00", api.ErrForm},
		{"\xff", api.ErrForm},
	} {
		if b, e := codec.Unhex(c.s); len(b) != 0 || e != c.e {
			t.Errorf("Unhex(%q): %x %d, not %d", c.s, b, e, c.e)
		}
	}
}

// P1.1: each byte by itself is a digit or none.
func TestUnhexEachByte(t *testing.T) {
	for _, c := range allBytes() {
		want := api.ErrForm
		if strings.IndexByte("0123456789abcdef", c) >= 0 {
			want = api.OK
		}
		for _, s := range []string{string([]byte{c, '0'}), string([]byte{'0', c})} {
			if _, e := codec.Unhex(s); e != want {
				t.Errorf("Unhex(%q): %d, not %d", s, e, want)
			}
		}
	}
}

// P1.5
func TestHex8(t *testing.T) {
	for _, n := range []int{0, 1, 9, 10, 15, 16, 255, 256, 0xdeadbeef, 0x12345678, 1<<31 - 1, 1 << 31, 1<<32 - 1} {
		want := fmt.Sprintf("%08x", n)
		if s, e := codec.Hex8(n); s != want || e != api.OK {
			t.Errorf("Hex8(%d): %q %d, not %q", n, s, e, want)
		}
		for _, s := range []string{want, strings.ToUpper(want)} {
			if m, e := codec.Unhex8(s); m != n || e != api.OK {
				t.Errorf("Unhex8(%q): %d %d, not %d", s, m, e, n)
			}
		}
	}
	for _, n := range []int{-1, 1 << 32, 1<<32 + 1, math.MinInt, math.MaxInt} {
		if s, e := codec.Hex8(n); s != "" || e != api.ErrArg {
			t.Errorf("Hex8(%d): %q %d", n, s, e)
		}
	}
}

// P1.5
func TestUnhex8Refuses(t *testing.T) {
	for _, c := range []struct {
		s string
		e api.Errno
	}{
		{"", api.ErrShort},
		{"0000000", api.ErrShort},
		{"000000000", api.ErrShort},
		{"gggg", api.ErrShort},
		{"ggggggggg", api.ErrShort},
		{"0000000g", api.ErrForm},
		{"G0000000", api.ErrForm},
		{"0x000000", api.ErrForm},
		{"-0000001", api.ErrForm},
		{"0000 000", api.ErrForm},
		{"0000000\x00", api.ErrForm},
	} {
		if n, e := codec.Unhex8(c.s); n != 0 || e != c.e {
			t.Errorf("Unhex8(%q): %d %d, not %d", c.s, n, e, c.e)
		}
	}
	for _, c := range allBytes() {
		want := api.ErrForm
		if strings.IndexByte("0123456789abcdefABCDEF", c) >= 0 {
			want = api.OK
		}
		if _, e := codec.Unhex8("0000000" + string([]byte{c})); e != want {
			t.Errorf("Unhex8 with the byte %02x: %d, not %d", c, e, want)
		}
	}
}
