package deflate_test

import (
	"bytes"
	"math"
	"slices"
	"strconv"
	"testing"

	"drayage/api"
	"drayage/deflate"
	"drayage/huff"
	"drayage/inflate"
)

// behind is packed bytes behind so many blocks of 19 bits each.
func behind(blocks int, x []byte) []byte {
	w := huff.NewWriter()
	for range blocks {
		w.Put(2, 3)
		w.Code(0x190, 9) // the byte 90
		w.Code(0, 7)
	}
	for _, c := range x {
		w.Put(int(c), 8)
	}
	return w.Bytes()
}

// bitsOf is how many bits a packed block has: of the places in a byte where it may end, one is the last.
func bitsOf(t *testing.T, x []byte) int {
	t.Helper()
	fewest := math.MaxInt
	for blocks := range 8 {
		_, used, e := inflate.Inflate(behind(blocks, x), api.MaxOut)
		if e != api.OK {
			t.Fatalf("behind %d blocks: %d", blocks, e)
		}
		fewest = min(fewest, 8*used-19*blocks)
	}
	return fewest
}

// P5.2: by Fixed 9 bits a byte, and 10 more; by Dynamic 2,400 more than that.
func TestBits(t *testing.T) {
	all := texts()
	for n := range 40 {
		all["bytes, "+strconv.Itoa(n)] = lettersOf(n, 100)
		all["two letters, "+strconv.Itoa(n)] = lettersOf(n, 2)
	}
	for n := 40; n < 600; n += 7 {
		all["skewed, "+strconv.Itoa(n)] = skewed(n)
		all["bytes, "+strconv.Itoa(n)] = lettersOf(n, 256)
		all["copies, "+strconv.Itoa(n)] = copies(n, 5, 10, 40)
	}
	for what, b := range all {
		fixed := bitsOf(t, check(t, what, b, deflate.Fixed))
		if fixed > 9*len(b)+10 {
			t.Errorf("%s: %d bytes take %d bits", what, len(b), fixed)
		}
		if told := bitsOf(t, check(t, what, b, deflate.Dynamic)); told > fixed+2400 {
			t.Errorf("%s: %d bytes take %d bits by codes of their own, else %d", what, len(b), told, fixed)
		}
	}
}

// P5.2: bytes that all have the longest rows, and none comes again.
func TestBitsOfTheLongestRows(t *testing.T) {
	var b []byte
	for c := 255; c >= 144; c-- {
		b = append(b, byte(c))
		if bits := bitsOf(t, check(t, "the longest rows", b, deflate.Fixed)); bits != 9*len(b)+10 {
			t.Errorf("%d bytes: %d bits", len(b), bits)
		}
	}
}

// P5.2: runs of few bytes from as far back as may be take no more than the bytes themselves may.
func TestBitsOfFarRuns(t *testing.T) {
	for _, b := range [][]byte{
		copies(99999, 3, 32768),
		copies(99999, 4, 30000, 31000, 32000),
		copies(99999, 3, 8193, 16385, 24577),
	} {
		for _, from := range []int{0, 20000} {
			if bits := bitsOf(t, check(t, "far runs", b[from:], deflate.Fixed)); bits > 9*len(b[from:])+10 {
				t.Errorf("%d bits of %d bytes", bits, len(b[from:]))
			}
		}
	}
}

// P5.3: a text, and it and it again.
func TestTwice(t *testing.T) {
	for what, b := range texts() {
		for _, n := range []int{0, 1, 2, 3, 10, 100, 257, 258, 259, 516, 517, 1000, 3999, 5000, 7999, 8000} {
			if n > len(b) {
				continue
			}
			for _, once := range [][]byte{b[:n], b[len(b)-n:]} {
				for _, how := range []int{deflate.Fixed, deflate.Dynamic} {
					x, y := check(t, what, once, how), check(t, what+", twice", slices.Repeat(once, 2), how)
					if len(y) > len(x)+4*(n/258)+340 {
						t.Errorf("%s by %d: %d bytes take %d, twice %d", what, how, n, len(x), len(y))
					}
				}
			}
		}
	}
}

// P5.3: what comes again in the same way many times, each time farther back.
func TestTwiceAmongMany(t *testing.T) {
	for _, kinds := range []int{2, 3, 200} {
		for _, every := range []int{4, 5, 9, 30} {
			b := lettersOf(8000, kinds)
			for at := 0; at+3 < len(b); at += every {
				copy(b[at:], "abc")
			}
			for _, how := range []int{deflate.Fixed, deflate.Dynamic} {
				x, y := check(t, "many", b, how), check(t, "many, twice", slices.Repeat(b, 2), how)
				if len(y) > len(x)+4*(8000/258)+340 {
					t.Errorf("%d kinds, each %d, by %d: %d, twice %d", kinds, every, how, len(x), len(y))
				}
			}
		}
	}
}

// The chapter leaves free which runs a block has, but a text that comes again at once shouldn't be missed for its length: each run of it is as long as may be, from as far back as may be.
func TestLongTextsAreFound(t *testing.T) {
	for _, n := range []int{8001, 20000, 32767, 32768} {
		once := lettersOf(n, 256)
		x, y := check(t, "once", once, deflate.Fixed), check(t, "twice", slices.Repeat(once, 2), deflate.Fixed)
		if runs := (n + 257) / 258; len(y) > len(x)+(runs*(8+5+13)+8)/8 {
			t.Errorf("%d bytes take %d, twice %d", n, len(x), len(y))
		}
	}
	far := lettersOf(32769, 256)
	x, y := check(t, "once", far, deflate.Fixed), check(t, "twice", slices.Repeat(far, 2), deflate.Fixed)
	if len(y) < 2*len(x)-100 {
		t.Errorf("%d bytes take %d, twice %d", len(far), len(x), len(y))
	}
}

// As TestLongTextsAreFound: what is too far back is forgotten, not what came since.
func TestNearTextsAreFound(t *testing.T) {
	var like, unlike []byte
	for i, n := range []int{29000, 26000, 25000, 31000, 5} {
		between := lettersOf(n, 256)
		like = slices.Concat(like, lettersOf(1000, 256), between)
		unlike = slices.Concat(unlike, lettersOf(1000, 256-i), between)
	}
	if x, y := check(t, "like", like, deflate.Fixed), check(t, "unlike", unlike, deflate.Fixed); len(x) > len(y)-4*1000 {
		t.Errorf("with 5 pieces that are alike %d bytes, else %d", len(x), len(y))
	}
	end := append(lettersOf(50, 40), "abc!abc"...)
	if x, y := check(t, "end", end, deflate.Fixed), check(t, "end", end[:len(end)-3], deflate.Fixed); len(x) > len(y)+2 {
		t.Errorf("%d bytes take %d, three that come again %d more", len(end)-3, len(y), len(x)-len(y))
	}
}

// The chapter leaves free which codes are told, but they are those that suit the text: a text of one letter or of few takes few bits each.
func TestCodesSuit(t *testing.T) {
	for _, c := range []struct {
		b    []byte
		most int
	}{
		{nil, 12},
		{[]byte("a"), 13},
		{bytes.Repeat([]byte("a"), 258*1000), 258*1000*2/258/8 + 40},
		{skewed(30000), 30000 * 3 / 8},
		{lettersOf(30000, 4), 30000*5/2/8 + 99},
		{lettersOf(30000, 128), 30000*7/8 + 300},
	} {
		if x := check(t, "codes", c.b, deflate.Dynamic); len(x) > c.most {
			t.Errorf("%d bytes take %d, not %d", len(c.b), len(x), c.most)
		}
	}
}
