package deflate_test

import (
	"bytes"
	"compress/flate"
	"io"
	"math"
	"slices"
	"testing"

	"drayage/api"
	"drayage/deflate"
	"drayage/inflate"
)

// ways is all ways of packing.
func ways() []int {
	return []int{deflate.Stored, deflate.Fixed, deflate.Dynamic}
}

// check packs bytes, and holds what comes against the promises of all texts; it answers the packed bytes.
func check(t *testing.T, what string, b []byte, how int) []byte {
	t.Helper()
	x, e := deflate.Deflate(b, how)
	if e != api.OK || len(x) == 0 {
		t.Fatalf("%s by %d: %d bytes, %d", what, how, len(x), e)
	}
	out, used, e := inflate.Inflate(x, len(b))
	if !bytes.Equal(out, b) || used != len(x) || e != api.OK {
		t.Errorf("%s by %d: %d bytes come of %d, %d used of %d, %d", what, how, len(out), len(b), used, len(x), e)
	}
	rest := bytes.NewReader(x)
	if out, err := io.ReadAll(flate.NewReader(rest)); !bytes.Equal(out, b) || err != nil || rest.Len() > 0 {
		t.Errorf("%s by %d: the library unpacks %d bytes of %d, %d left: %v", what, how, len(out), len(b), rest.Len(), err)
	}
	if how != deflate.Stored && int(x[0]&7) != 1|how<<1 {
		t.Errorf("%s by %d: begins with %x: no last block of that kind", what, how, x[0])
	}
	return x
}

// checkAll checks a text by all ways.
func checkAll(t *testing.T, what string, b []byte) {
	t.Helper()
	for _, how := range ways() {
		check(t, what, b, how)
	}
}

// P5.1: the chapter's examples, and what can come in one way alone.
func TestExamples(t *testing.T) {
	for _, c := range []struct {
		b, want string
		how     int
	}{
		{"a", "\x01\x01\x00\xfe\xffa", deflate.Stored},
		{"", "\x01\x00\x00\xff\xff", deflate.Stored},
		{"", "\x03\x00", deflate.Fixed},
		{"a", "\x4b\x04\x00", deflate.Fixed},
		{"\x00\xff", "\x63\xf8\x0f\x00", deflate.Fixed},
	} {
		if x := check(t, c.b, []byte(c.b), c.how); string(x) != c.want {
			t.Errorf("%q by %d: %x, not %x", c.b, c.how, x, c.want)
		}
	}
}

// P5.1: the ways are these numbers.
func TestNumbersOfWays(t *testing.T) {
	if !slices.Equal(ways(), []int{0, 1, 2}) {
		t.Errorf("%v", ways())
	}
}

// checkRefused holds an error, and that nothing stands beside it.
func checkRefused(t *testing.T, b []byte, how int, want api.Errno) {
	t.Helper()
	if x, e := deflate.Deflate(b, how); len(x) != 0 || e != want {
		t.Errorf("%d bytes by %d: %d bytes, %d, not %d", len(b), how, len(x), e, want)
	}
}

// P5.1: what is refused, and in which order.
func TestRefused(t *testing.T) {
	most := make([]byte, api.MaxOut+1)
	for _, how := range []int{-1, 3, 4, -256, 256, 257, 1 << 32, math.MinInt, math.MaxInt} {
		checkRefused(t, nil, how, api.ErrArg)
		checkRefused(t, []byte("abc"), how, api.ErrArg)
		checkRefused(t, most, how, api.ErrArg)
	}
	for _, how := range ways() {
		checkRefused(t, most, how, api.ErrLarge)
		checkRefused(t, append(most, 1, 2, 3), how, api.ErrLarge)
	}
}

// P5.1: as many bytes as there may be.
func TestMost(t *testing.T) {
	b := bytes.Repeat([]byte("0123456789abcdef"), api.MaxOut/16)
	for _, how := range ways() {
		x, e := deflate.Deflate(b, how)
		out, used, f := inflate.Inflate(x, len(b))
		if !bytes.Equal(out, b) || used != len(x) || e != api.OK || f != api.OK {
			t.Errorf("by %d: %d come, %d used of %d, %d %d", how, len(out), used, len(x), e, f)
		}
	}
}

// storedOf is bytes in blocks of kind 0, as the chapter tells it.
func storedOf(b []byte) []byte {
	var x []byte
	for {
		n := min(len(b), 65535)
		last := byte(0)
		if n == len(b) {
			last = 1
		}
		x = append(x, last, byte(n), byte(n>>8), ^byte(n), ^byte(n>>8))
		x = append(x, b[:n]...)
		if b = b[n:]; len(b) == 0 {
			return x
		}
	}
}

// P5.1: blocks of kind 0 have whole sizes, but the last one; behind a last one that is whole there is none.
func TestStored(t *testing.T) {
	b := lettersOf(4*65535, 256)
	for _, n := range []int{0, 1, 2, 255, 256, 257, 32768, 65534, 65535, 65536, 65537, 2*65535 - 1, 2 * 65535, 2*65535 + 1, 3 * 65535, 3*65535 + 9, 4 * 65535} {
		if x := check(t, "stored", b[:n], deflate.Stored); !bytes.Equal(x, storedOf(b[:n])) {
			t.Errorf("%d bytes: not stored as they should be", n)
		}
	}
}

// P5.1: all short texts of few letters, and each byte alone and twice.
func TestShort(t *testing.T) {
	texts := [][]byte{nil}
	for from := 0; len(texts) < 800; {
		to := len(texts)
		for _, text := range texts[from:to] {
			for _, c := range []byte{0, 'a', 0xff} {
				texts = append(texts, append(slices.Clone(text), c))
			}
		}
		from = to
	}
	for c := range 256 {
		texts = append(texts, []byte{byte(c)}, []byte{byte(c), byte(c)}, []byte{byte(c), byte(c + 1), byte(c), byte(c), byte(c), byte(c)})
	}
	for _, text := range texts {
		checkAll(t, string(text), text)
	}
}

// P5.1: texts of many kinds and lengths.
func TestTexts(t *testing.T) {
	for what, b := range texts() {
		checkAll(t, what, b)
		for n := len(b); n > 0; n = n * 3 / 5 {
			checkAll(t, what, b[len(b)-n:])
		}
	}
}

// P5.1: one way hangs on no call ahead of it.
func TestAgain(t *testing.T) {
	for what, b := range texts() {
		for _, how := range ways() {
			first, _ := deflate.Deflate(b, how)
			deflate.Deflate(b[len(b)/3:], (how+1)%3)
			if again, _ := deflate.Deflate(b, how); !bytes.Equal(first, again) {
				t.Errorf("%s by %d: %d bytes, then %d", what, how, len(first), len(again))
			}
		}
	}
}
