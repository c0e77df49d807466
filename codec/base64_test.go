package codec_test

import (
	"bytes"
	"encoding/base64"
	"strings"
	"testing"

	"drayage/api"
	"drayage/codec"
)

// P1.2
func TestBase64(t *testing.T) {
	for _, c := range []struct{ b, s string }{
		{"", ""},
		{"a", "YQ=="},
		{"ab", "YWI="},
		{"abc", "YWJj"},
		{"abcd", "YWJjZA=="},
		{"\x00", "AA=="},
		{"\x00\x00\x00", "AAAA"},
		{"\xff", "/w=="},
		{"\xff\xff", "//8="},
		{"\xff\xff\xff", "////"},
		{"\xfb\xef\xbe", "++++"},
	} {
		if s := codec.Base64([]byte(c.b)); s != c.s {
			t.Errorf("Base64(%q): %q, not %q", c.b, s, c.s)
		}
		if b, e := codec.Unbase64(c.s); string(b) != c.b || e != api.OK {
			t.Errorf("Unbase64(%q): %q %d, not %q", c.s, b, e, c.b)
		}
	}
}

// P1.2: every length's end, and every sign.
func TestBase64LikeTheLibrarys(t *testing.T) {
	all := allBytes()
	for from := range all {
		for size := range min(9, len(all)-from+1) {
			b := all[from : from+size]
			s := base64.StdEncoding.EncodeToString(b)
			if got := codec.Base64(b); got != s {
				t.Errorf("Base64(%x): %q, not %q", b, got, s)
			}
			if got, e := codec.Unbase64(s); !bytes.Equal(got, b) || e != api.OK {
				t.Errorf("Unbase64(%q): %x %d, not %x", s, got, e, b)
			}
		}
	}
}

// P1.2
func TestUnbase64Refuses(t *testing.T) {
	for _, c := range []struct {
		s string
		e api.Errno
	}{
		{"Y", api.ErrShort},
		{"YQ", api.ErrShort},
		{"YQ=", api.ErrShort},
		{"=", api.ErrShort},
		{"YWJjY", api.ErrShort},
		{"YQ==\n", api.ErrShort},
		// Both hold: what lacks is looked for first.
		{"!!!", api.ErrShort},
		{"!!!!!", api.ErrShort},
		{"YR==", api.ErrForm},
		{"YQ=A", api.ErrForm},
		{"YWJ=", api.ErrForm},
		{"Y===", api.ErrForm},
		{"====", api.ErrForm},
		{"=AAA", api.ErrForm},
		{"A=AA", api.ErrForm},
		{"AA=A", api.ErrForm},
		{"YQ==YQ==", api.ErrForm},
		{"YWI=YWJj", api.ErrForm},
		{"YWJj====", api.ErrForm},
		{"YW-j", api.ErrForm},
		{"YW_j", api.ErrForm},
		{"YW j", api.ErrForm},
		{"YWJj\n\n\n\n", api.ErrForm},
		{"\x00\x00\x00\x00", api.ErrForm},
		{"\xff\xff\xff\xff", api.ErrForm},
	} {
		if b, e := codec.Unbase64(c.s); len(b) != 0 || e != c.e {
			t.Errorf("Unbase64(%q): %q %d, not %d", c.s, b, e, c.e)
		}
	}
}

// P1.2: of four bytes out of some, all the texts that are no Base64 are refused, and no other.
func TestUnbase64OfAllSmallTexts(t *testing.T) {
	const some = "AQgwYZz059+/=-\n\x00\xff"
	for i := range len(some) * len(some) * len(some) * len(some) {
		var four [4]byte
		for k := range four {
			four[k] = some[i%len(some)]
			i /= len(some)
		}
		s := string(four[:])
		want, err := base64.StdEncoding.Strict().DecodeString(s)
		wantErrno := api.OK
		if err != nil || strings.Contains(s, "\n") { // The library passes over the ends of lines.
			want, wantErrno = nil, api.ErrForm
		}
		if b, e := codec.Unbase64(s); !bytes.Equal(b, want) || e != wantErrno {
			t.Fatalf("Unbase64(%q): %x %d, not %x %d", s, b, e, want, wantErrno)
		}
	}
}
