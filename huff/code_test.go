package huff_test

import (
	"math"
	"slices"
	"strings"
	"testing"

	"drayage/api"
	"drayage/huff"
)

// wrongLengths is lengths, and the error of Check.
func wrongLengths() []struct {
	lens []int
	e    api.Errno
} {
	most := make([]int, api.MaxSyms)
	return []struct {
		lens []int
		e    api.Errno
	}{
		{make([]int, api.MaxSyms+1), api.ErrLarge},
		{make([]int, 99999), api.ErrLarge},
		{[]int{-1}, api.ErrArg},
		{[]int{16}, api.ErrArg},
		{[]int{1, 0, 16}, api.ErrArg},
		{[]int{math.MinInt}, api.ErrArg},
		{[]int{math.MaxInt}, api.ErrArg},
		{[]int{64}, api.ErrArg},
		{append(most[:api.MaxSyms-1:api.MaxSyms-1], -1), api.ErrArg},
		// Full but for that.
		{append([]int{1, 1}, most[1:]...), api.ErrLarge},
		{[]int{1, 1, -1}, api.ErrArg},
		{[]int{1, 16, 1}, api.ErrArg},
		{[]int{1, 1, 1}, api.ErrForm},
		{[]int{1, 1, 15}, api.ErrForm},
		{[]int{15, 1, 0, 1}, api.ErrForm},
		{slices.Repeat([]int{1}, api.MaxSyms), api.ErrForm},
		{slices.Repeat([]int{8}, 257), api.ErrForm},
		{append(slices.Repeat([]int{8}, 256), 15), api.ErrForm},
		{append(slices.Repeat([]int{2}, 3), 3, 4, 5, 6, 7, 8, 9, 10, 11, 12, 13, 14, 15, 15, 15), api.ErrForm},
		// More than one holds: the errors have an order.
		{slices.Repeat([]int{-1}, api.MaxSyms+1), api.ErrLarge},
		{slices.Repeat([]int{1}, api.MaxSyms+1), api.ErrLarge},
		{append(slices.Repeat([]int{1}, api.MaxSyms), 16), api.ErrLarge},
		{[]int{1, 1, 1, 16}, api.ErrArg},
		{[]int{1, 1, 1, -1}, api.ErrArg},
	}
}

// P3.3, P3.4: all that take lengths refuse them, with nothing beside.
func TestWrongLengths(t *testing.T) {
	for _, c := range wrongLengths() {
		if e := huff.Check(c.lens); e != c.e {
			t.Errorf("Check(%v): %d, not %d", c.lens, e, c.e)
		}
		if huff.Full(c.lens) {
			t.Errorf("Full(%v)", c.lens)
		}
		if codes, e := huff.Codes(c.lens); len(codes) != 0 || e != c.e {
			t.Errorf("Codes(%v): %v %d, not %d", c.lens, codes, e, c.e)
		}
		if tree, e := huff.NewTree(c.lens); tree != nil || e != c.e {
			t.Errorf("NewTree(%v): %v %d, not %d", c.lens, tree, e, c.e)
		}
	}
}

// checkRows holds Check, Full and Codes against rows that are told one behind the other.
func checkRows(t *testing.T, lens []int) {
	rows, fit := rowsOf(lens)
	if !fit {
		if e := huff.Check(lens); e != api.ErrForm || huff.Full(lens) {
			t.Errorf("Check(%v): %d, Full: %t", lens, e, huff.Full(lens))
		}
		return
	}
	// The last row that there may be is ones alone: only behind all of them no row is left.
	last, most := "", 0
	want := make([]int, len(lens))
	for symbol, row := range rows {
		if lens[symbol] > 0 {
			want[symbol] = numberOf(turned(row))
			last, most = max(last, row), max(most, lens[symbol])
		}
	}
	full := most > 0 && last == strings.Repeat("1", most)
	if e := huff.Check(lens); e != api.OK || huff.Full(lens) != full {
		t.Errorf("Check(%v): %d, Full: %t, not %t", lens, e, huff.Full(lens), full)
	}
	if codes, e := huff.Codes(lens); !slices.Equal(codes, want) || e != api.OK {
		t.Errorf("Codes(%v): %v %d, not %v", lens, codes, e, want)
	}
}

// P3.3: all small codes, and some great ones.
func TestCodes(t *testing.T) {
	for _, lens := range slices.Concat(allLengths(5, 4), someLengths()) {
		checkRows(t, lens)
	}
	if codes, _ := huff.Codes([]int{2, 1, 3, 3}); !slices.Equal(codes, []int{2, 0, 6, 7}) {
		t.Errorf("the example: %v", codes)
	}
}

// P3.3: codes that just fill all there is, of each length, and with one row less.
func TestFull(t *testing.T) {
	for n := 1; n <= api.MaxBits; n++ {
		lens := []int{n}
		for k := n; k >= 1; k-- {
			if huff.Full(lens) || huff.Check(lens) != api.OK {
				t.Errorf("Full(%v)", lens)
			}
			lens = append(lens, k)
		}
		if !huff.Full(lens) || huff.Check(lens) != api.OK {
			t.Errorf("not Full(%v)", lens)
		}
		if lens = append(lens, 0, 0); !huff.Full(lens) {
			t.Errorf("not Full(%v)", lens)
		}
		if lens = append(lens, api.MaxBits); huff.Full(lens) || huff.Check(lens) != api.ErrForm {
			t.Errorf("Full(%v)", lens)
		}
	}
	for _, lens := range [][]int{nil, {}, {0}, make([]int, api.MaxSyms)} {
		if huff.Full(lens) || huff.Check(lens) != api.OK {
			t.Errorf("Full of %d symbols without rows", len(lens))
		}
	}
}

// P3.6: no row is the beginning of another one.
func TestNoRowBeginsAnother(t *testing.T) {
	for _, lens := range slices.Concat(allLengths(4, 4), someLengths()) {
		codes, e := huff.Codes(lens)
		if e != api.OK {
			continue
		}
		rows := map[string]int{}
		for symbol, n := range lens {
			if n > 0 {
				rows[written(codes[symbol], n)]++
			}
		}
		for row, times := range rows {
			if times > 1 {
				t.Errorf("Codes(%v): %s is there %d times", lens, row, times)
			}
			for n := range row {
				if rows[row[:n]] > 0 {
					t.Errorf("Codes(%v): %s is the beginning of %s", lens, row[:n], row)
				}
			}
		}
	}
}
