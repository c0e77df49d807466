package codec_test

import (
	"fmt"
	"math"
	"strconv"
	"strings"
	"testing"

	"drayage/api"
	"drayage/codec"
)

const greatest = 1<<62 - 1

// P1.3
func TestOctal(t *testing.T) {
	for _, c := range []struct {
		n, width int
		s        string
		e        api.Errno
	}{
		{8, 4, "010\x00", api.OK},
		{0, 2, "0\x00", api.OK},
		{7, 2, "7\x00", api.OK},
		{8, 2, "", api.ErrLarge},
		{511, 4, "777\x00", api.OK},
		{512, 4, "", api.ErrLarge},
		{0, 12, "00000000000\x00", api.OK},
		{1<<33 - 1, 12, "77777777777\x00", api.OK},
		{1 << 33, 12, "", api.ErrLarge},
		{1<<33 - 1, 11, "", api.ErrLarge},
		{math.MaxInt, 12, "", api.ErrLarge},
		{api.MaxMode, 8, "0007777\x00", api.OK},
		{0, 1, "", api.ErrArg},
		{0, 0, "", api.ErrArg},
		{0, -1, "", api.ErrArg},
		{1, 13, "", api.ErrArg},
		{1, math.MinInt, "", api.ErrArg},
		{1, math.MaxInt, "", api.ErrArg},
		{-1, 4, "", api.ErrArg},
		{math.MinInt, 12, "", api.ErrArg},
		// Both hold: the argument is looked at first.
		{math.MaxInt, 13, "", api.ErrArg},
		{math.MaxInt, 1, "", api.ErrArg},
	} {
		if s, e := codec.Octal(c.n, c.width); s != c.s || e != c.e {
			t.Errorf("Octal(%d, %d): %q %d, not %q %d", c.n, c.width, s, e, c.s, c.e)
		}
	}
}

// P1.3: the greatest number of each width is put down, and read; one more isn't.
func TestOctalOfEachWidth(t *testing.T) {
	for width := 2; width <= 12; width++ {
		most := 1<<(3*(width-1)) - 1
		for _, n := range []int{0, 1, most / 2, most} {
			want := fmt.Sprintf("%0*o\x00", width-1, n)
			s, e := codec.Octal(n, width)
			if s != want || e != api.OK {
				t.Errorf("Octal(%d, %d): %q %d, not %q", n, width, s, e, want)
			}
			if m, e := codec.Unoctal(s); m != n || e != api.OK {
				t.Errorf("Unoctal(%q): %d %d, not %d", s, m, e, n)
			}
		}
		if s, e := codec.Octal(most+1, width); s != "" || e != api.ErrLarge {
			t.Errorf("Octal(%d, %d): %q %d", most+1, width, s, e)
		}
	}
}

// P1.3
func TestUnoctal(t *testing.T) {
	for _, c := range []struct {
		s string
		n int
		e api.Errno
	}{
		{"", 0, api.OK},
		{" ", 0, api.OK},
		{"\x00", 0, api.OK},
		{"   \x00 \x00", 0, api.OK},
		{" 17 ", 15, api.OK},
		{"17", 15, api.OK},
		{"0000017", 15, api.OK},
		{"17\x00 \x00  \x00", 15, api.OK},
		{"17 \x00 ", 15, api.OK},
		{strings.Repeat(" ", 99) + strings.Repeat("0", 99) + "1", 1, api.OK},
		{strconv.FormatInt(greatest, 8), greatest, api.OK},
		{"0" + strconv.FormatInt(greatest, 8) + "\x00", greatest, api.OK},
		{strconv.FormatUint(greatest+1, 8), 0, api.ErrLarge},
		{strconv.FormatUint(math.MaxUint64, 8), 0, api.ErrLarge},
		{" 400000000000000000000\x00 ", 0, api.ErrLarge},
		{strings.Repeat("7", 99), 0, api.ErrLarge},
		{"1" + strings.Repeat("0", 99), 0, api.ErrLarge},
		{"8", 0, api.ErrForm},
		{"18", 0, api.ErrForm},
		{"1 2", 0, api.ErrForm},
		{"1\x002", 0, api.ErrForm},
		{"\x001", 0, api.ErrForm},
		{" \x00 1", 0, api.ErrForm},
		{"\t1", 0, api.ErrForm},
		{"1\t", 0, api.ErrForm},
		{"-1", 0, api.ErrForm},
		{"+1", 0, api.ErrForm},
		{"0o7", 0, api.ErrForm},
		{"1\n", 0, api.ErrForm},
		{"\xff", 0, api.ErrForm},
		{"1 \xff ", 0, api.ErrForm},
		// Both hold: the form is looked at first.
		{strings.Repeat("7", 99) + "8", 0, api.ErrForm},
		{strings.Repeat("7", 99) + " 7", 0, api.ErrForm},
	} {
		if n, e := codec.Unoctal(c.s); n != c.n || e != c.e {
			t.Errorf("Unoctal(%q): %d %d, not %d %d", c.s, n, e, c.n, c.e)
		}
	}
}

// P1.4
func TestDec(t *testing.T) {
	for _, n := range []int{0, 1, 9, 10, 120, 999, 1000, api.MaxNumber, greatest} {
		want := fmt.Sprint(n)
		if s := codec.Dec(n); s != want {
			t.Errorf("Dec(%d): %q, not %q", n, s, want)
		}
		if m, e := codec.Undec(want); m != n || e != api.OK {
			t.Errorf("Undec(%q): %d %d, not %d", want, m, e, n)
		}
	}
	for n, want := range map[int]string{-1: "", math.MinInt: "", greatest + 1: "4611686018427387904", math.MaxInt: "9223372036854775807"} {
		if s := codec.Dec(n); s != want {
			t.Errorf("Dec(%d): %q, not %q", n, s, want)
		}
	}
}

// P1.4
func TestUndecRefuses(t *testing.T) {
	for _, c := range []struct {
		s string
		e api.Errno
	}{
		{"", api.ErrForm},
		{"07", api.ErrForm},
		{"00", api.ErrForm},
		{"12a", api.ErrForm},
		{"a12", api.ErrForm},
		{"-1", api.ErrForm},
		{"+1", api.ErrForm},
		{" 1", api.ErrForm},
		{"1 ", api.ErrForm},
		{"1_0", api.ErrForm},
		{"1\x00", api.ErrForm},
		{"/", api.ErrForm},
		{":", api.ErrForm},
		{"\u0663", api.ErrForm},
		{"\xff", api.ErrForm},
		{"4611686018427387904", api.ErrLarge},
		{"9223372036854775808", api.ErrLarge},
		{"18446744073709551617", api.ErrLarge},
		{strings.Repeat("9", 999), api.ErrLarge},
		// Both hold: the form is looked at first.
		{strings.Repeat("9", 999) + "x", api.ErrForm},
		{"0" + strings.Repeat("9", 999), api.ErrForm},
	} {
		if n, e := codec.Undec(c.s); n != 0 || e != c.e {
			t.Errorf("Undec(%q): %d %d, not %d", c.s, n, e, c.e)
		}
	}
}
