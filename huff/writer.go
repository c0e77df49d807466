package huff

import (
	"bytes"

	"drayage/api"
)

// Writer writes bits.
type Writer struct {
	b    []byte
	bits int
}

// NewWriter is a writer without bits.
func NewWriter() *Writer {
	return &Writer{}
}

// Put writes a number of so many bits.
func (w *Writer) Put(v, n int) {
	if n < 0 || n > mostBits {
		return
	}
	for i := range n {
		w.bit(v >> i & 1)
	}
}

// Code writes a code's row.
func (w *Writer) Code(code, n int) {
	if n < 0 || n > api.MaxBits {
		return
	}
	for i := range n {
		w.bit(code >> (n - 1 - i) & 1)
	}
}

// Align fills up a byte.
func (w *Writer) Align() {
	// The last byte's bits that weren't put are noughts already.
	w.bits = len(w.b) * byteBits
}

// Raw writes whole bytes.
func (w *Writer) Raw(b []byte) {
	w.b = append(w.b, b...)
	w.Align()
}

// Len is how many bits there are.
func (w *Writer) Len() int {
	return w.bits
}

// Bytes is all bytes.
func (w *Writer) Bytes() []byte {
	return bytes.Clone(w.b)
}

// bit writes a bit.
func (w *Writer) bit(bit int) {
	if w.bits%byteBits == 0 {
		w.b = append(w.b, 0)
	}
	w.b[w.bits/byteBits] |= byte(bit << (w.bits % byteBits))
	w.bits++
}
