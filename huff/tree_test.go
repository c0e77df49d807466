package huff_test

import (
	"math/rand/v2"
	"slices"
	"strings"
	"testing"

	"drayage/api"
	"drayage/huff"
)

// treeOf is the tree of lengths that fit.
func treeOf(t *testing.T, lens []int) *huff.Tree {
	tree, e := huff.NewTree(lens)
	if e != api.OK {
		t.Fatalf("NewTree(%v): %d", lens, e)
	}
	return tree
}

// readerOf is a reader at bits that end where the row of bytes does.
func readerOf(bits string) *huff.Reader {
	skip := (8 - len(bits)%8) % 8
	return readerAt(bytesOf(strings.Repeat("1", skip)+bits), skip)
}

// checkNext holds Next against rows, at bits.
func checkNext(t *testing.T, lens []int, tree *huff.Tree, rows []string, bits string) {
	want, wantErrno, took := nextOf(rows, bits)
	r := readerOf(bits)
	from := r.At()
	symbol, e := tree.Next(r)
	if symbol != want || e != wantErrno || r.At()-from != took {
		t.Errorf("Next of %v at %s: %d %d behind %d bits, not %d %d %d", lens, bits, symbol, e, r.At()-from, want, wantErrno, took)
	}
}

// P3.4: all small codes, at all bits.
func TestNextOfSmallCodes(t *testing.T) {
	for _, lens := range allLengths(4, 4) {
		rows, fit := rowsOf(lens)
		if !fit {
			continue
		}
		tree := treeOf(t, lens)
		for n := range 7 {
			for v := range 1 << n {
				checkNext(t, lens, tree, rows, written(v, n))
			}
		}
	}
}

// P3.4: great codes, at each row, at all that a row begins with, and at what is one bit off.
func TestNextOfGreatCodes(t *testing.T) {
	for _, lens := range someLengths() {
		rows, _ := rowsOf(lens)
		tree := treeOf(t, lens)
		for symbol := 0; symbol < len(rows); symbol += 5 {
			for n := range len(rows[symbol]) {
				begun := rows[symbol][:n]
				checkNext(t, lens, tree, rows, begun)
				for _, bits := range []string{begun + "0", begun + "1", rows[symbol]} {
					checkNext(t, lens, tree, rows, bits)
					checkNext(t, lens, tree, rows, bits+"00000000000000000")
					checkNext(t, lens, tree, rows, bits+"11111111111111111")
				}
			}
		}
	}
}

// P3.4: the chapter's examples, and what it says of codes without rows.
func TestNextOfTheExamples(t *testing.T) {
	for _, c := range []struct {
		lens   []int
		bits   string
		symbol int
		e      api.Errno
		at     int
	}{
		{[]int{1, 0}, "00000000", 0, api.OK, 1},
		{[]int{1, 0}, "10000000", 0, api.ErrForm, 1},
		{[]int{1, 0}, "", 0, api.ErrShort, 0},
		{nil, "", 0, api.ErrShort, 0},
		{nil, "00000000", 0, api.ErrForm, 1},
		{nil, "11111111", 0, api.ErrForm, 1},
		{[]int{0, 0, 0}, "", 0, api.ErrShort, 0},
		{[]int{0, 0, 0}, "0000000000000000", 0, api.ErrForm, 1},
		{[]int{15}, "00000000", 0, api.ErrShort, 8},
		{[]int{15}, "0000000000000000", 0, api.OK, 15},
		{[]int{15}, "0000000000000010", 0, api.ErrForm, 15},
		{[]int{15}, "0000000000000110", 0, api.ErrForm, 14},
		{[]int{15}, "1111111111111111", 0, api.ErrForm, 1},
		{[]int{0, 3}, "0010000011111111", 0, api.ErrForm, 3},
	} {
		r := huff.NewReader(bytesOf(c.bits))
		if symbol, e := treeOf(t, c.lens).Next(r); symbol != c.symbol || e != c.e || r.At() != c.at {
			t.Errorf("Next of %v at %s: %d %d at %d, not %d %d %d", c.lens, c.bits, symbol, e, r.At(), c.symbol, c.e, c.at)
		}
	}
	// Bits that are the beginning of no row, and then end: they haven't ended ahead of a row's end.
	for _, c := range []struct {
		lens []int
		bits string
		e    api.Errno
	}{
		{nil, "0", api.ErrForm},
		{[]int{3}, "1", api.ErrForm},
		{[]int{1, 3}, "11", api.ErrForm},
		{[]int{1, 3}, "10", api.ErrShort},
	} {
		r := readerOf(c.bits)
		if _, e := treeOf(t, c.lens).Next(r); e != c.e || r.At() != 8 {
			t.Errorf("Next of %v at %s alone: %d at %d, not %d", c.lens, c.bits, e, r.At(), c.e)
		}
	}
}

// P3.6: what is written row by row, with other bits between, is read symbol by symbol; one tree reads from many readers.
func TestWhatIsWrittenIsRead(t *testing.T) {
	random := rand.New(rand.NewPCG(7, 8))
	for _, lens := range someLengths() {
		codes, e := huff.Codes(lens)
		if e != api.OK {
			t.Fatalf("Codes(%v): %d", lens, e)
		}
		tree := treeOf(t, lens)
		var symbols []int
		for symbol, n := range lens {
			if n > 0 {
				symbols = append(symbols, symbol, symbol)
			}
		}
		random.Shuffle(len(symbols), func(i, k int) { symbols[i], symbols[k] = symbols[k], symbols[i] })
		w := huff.NewWriter()
		for i, symbol := range symbols {
			w.Code(codes[symbol], lens[symbol])
			w.Put(i, i%4)
		}
		r := huff.NewReader(w.Bytes())
		var read []int
		for i := range symbols {
			symbol, e := tree.Next(r)
			if v, ok := r.Take(i % 4); e != api.OK || !ok || v != i&(1<<(i%4)-1) {
				t.Fatalf("of %v: %d, then %d %t", lens, e, v, ok)
			}
			read = append(read, symbol)
		}
		if !slices.Equal(read, symbols) || r.At() != w.Len() {
			t.Errorf("of %v: %v at %d, not %v %d", lens, read, r.At(), symbols, w.Len())
		}
	}
}
