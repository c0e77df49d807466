package huff_test

import (
	"bytes"
	"slices"
	"testing"

	"drayage/api"
	"drayage/huff"
)

// spoil writes over an answer and all the memory that it has, and grows it.
func spoil(b []byte) {
	b = b[:cap(b)]
	for i := range b {
		b[i] ^= 0x5a
	}
	_ = append(b, 9, 9, 9)
}

// spoilInts writes over numbers and all the memory that they have.
func spoilInts(n []int) {
	n = n[:cap(n)]
	for i := range n {
		n[i] = 99
	}
	_ = append(n, 9, 9, 9)
}

// P3.6: bytes that are read may be written over; the reader has its own.
func TestReaderKeepsNothing(t *testing.T) {
	b := bytes.Clone(some)
	r := huff.NewReader(b[:4])
	if !bytes.Equal(b, some) {
		t.Errorf("NewReader left %x", b)
	}
	spoil(b)
	if v, ok := r.Take(12); v != 0x195 || !ok {
		t.Errorf("Take: %x", v)
	}
	tree := treeOf(t, []int{2, 2, 2, 2})
	if symbol, e := tree.Next(r); symbol != 0 || e != api.OK {
		t.Errorf("Next: %d %d", symbol, e)
	}
	got, _ := r.Bytes(2)
	if !bytes.Equal(got, some[2:4]) {
		t.Errorf("Bytes: %x", got)
	}
	if _, ok := r.Take(1); ok {
		t.Error("what lies behind the length was read")
	}
}

// P3.6: bytes that are answered may be written over and grown; neither the reader nor what was handed in changes.
func TestBytesOfReaderAreNew(t *testing.T) {
	b := bytes.Clone(some)
	r := huff.NewReader(b)
	got, _ := r.Bytes(3)
	kept := bytes.Clone(got)
	next, _ := r.Bytes(2)
	spoil(got)
	rest, _ := r.Bytes(2)
	if !bytes.Equal(kept, some[:3]) || !bytes.Equal(next, some[3:5]) || !bytes.Equal(rest, some[5:]) || !bytes.Equal(b, some) {
		t.Errorf("%x %x %x %x", kept, next, rest, b)
	}
}

// P3.6: what was written raw may be written over; what lies behind its length stays.
func TestWriterKeepsNothing(t *testing.T) {
	b := bytes.Clone(some)
	w := huff.NewWriter()
	w.Raw(b[:3])
	w.Put(5, 3)
	w.Raw(b[:2])
	if !bytes.Equal(b, some) {
		t.Errorf("Raw left %x", b)
	}
	spoil(b)
	w.Put(1, 1)
	if want := append(append(bytes.Clone(some[:3]), 5), some[0], some[1], 1); !bytes.Equal(w.Bytes(), want) || !bytes.Equal(b[:2], []byte{some[0] ^ 0x5a, some[1] ^ 0x5a}) {
		t.Errorf("%x, not %x", w.Bytes(), want)
	}
}

// P3.6: what a writer answers may be written over and grown, and stays as the writer goes on.
func TestBytesOfWriterAreNew(t *testing.T) {
	for size := range 40 {
		w := huff.NewWriter()
		for i := range size {
			w.Put(i, 5)
		}
		kept := w.Bytes()
		want := bytes.Clone(kept)
		spoil(w.Bytes())
		if !bytes.Equal(w.Bytes(), want) {
			t.Errorf("%x, not %x", w.Bytes(), want)
		}
		w.Put(0xffffff, 24)
		w.Raw(some)
		if !bytes.Equal(kept, want) {
			t.Errorf("an answer became %x from %x", kept, want)
		}
	}
}

// P3.6: lengths and counts stay, and their answers are new.
func TestListsStayAndAreNew(t *testing.T) {
	for name, call := range map[string]func(list []int) []int{
		"Codes": func(list []int) []int {
			codes, _ := huff.Codes(list)
			return codes
		},
		"Lengths": func(list []int) []int {
			lens, _ := huff.Lengths(list, 3)
			return lens
		},
		"Check":   func(list []int) []int { return []int{int(huff.Check(list))} },
		"NewTree": func(list []int) []int { return symbolsOf(t, treeOf(t, list)) },
		"Full": func(list []int) []int {
			if huff.Full(list) {
				return []int{1}
			}
			return []int{0}
		},
	} {
		was := []int{3, 2, 3, 2, 0, 2, 1, 1, 1}
		list := slices.Clone(was)
		kept := call(list[:6])
		want := slices.Clone(kept)
		spoilInts(call(list[:6]))
		if !slices.Equal(list, was) {
			t.Errorf("%s left %v", name, list)
		}
		if again := call(list[:6:6]); !slices.Equal(again, want) {
			t.Errorf("%s: %v, then %v", name, want, again)
		}
		spoilInts(list)
		if !slices.Equal(kept, want) {
			t.Errorf("%s: an answer became %v from %v", name, kept, want)
		}
	}
}

// symbolsOf is the symbols that a tree reads at each three bits.
func symbolsOf(t *testing.T, tree *huff.Tree) []int {
	var symbols []int
	for v := range 8 {
		symbol, e := tree.Next(readerOf(written(v, 3)))
		symbols = append(symbols, symbol, int(e))
	}
	return symbols
}

// P3.6: lengths may be written over behind NewTree.
func TestTreeKeepsNothing(t *testing.T) {
	lens := []int{3, 2, 3, 2, 0, 2}
	tree := treeOf(t, lens)
	want := symbolsOf(t, treeOf(t, slices.Clone(lens)))
	spoilInts(lens)
	if got := symbolsOf(t, tree); !slices.Equal(got, want) {
		t.Errorf("%v, not %v", got, want)
	}
}
