package huff

import "bytes"

// Reader reads bits.
type Reader struct {
	b  []byte
	at int // in bits
}

// NewReader is a reader at the first bit.
func NewReader(b []byte) *Reader {
	return &Reader{b: bytes.Clone(b)}
}

// At is how many bits were read.
func (r *Reader) At() int {
	return r.at
}

// Take reads a number of so many bits.
func (r *Reader) Take(n int) (int, bool) {
	if n < 0 || n > mostBits || n > r.left() {
		return 0, false
	}
	v := 0
	for i := range n {
		v |= r.bit() << i
	}
	return v, true
}

// Align goes on to a byte's first bit.
func (r *Reader) Align() {
	r.at = (r.at + byteBits - 1) / byteBits * byteBits
}

// Bytes reads whole bytes.
func (r *Reader) Bytes(n int) ([]byte, bool) {
	r.Align()
	if n < 0 || n > r.left()/byteBits {
		return nil, false
	}
	from := r.at / byteBits
	r.at += n * byteBits
	return bytes.Clone(r.b[from : from+n]), true
}

// left is how many bits lie ahead.
func (r *Reader) left() int {
	return len(r.b)*byteBits - r.at
}

// bit reads the next bit, which must be there.
func (r *Reader) bit() int {
	bit := int(r.b[r.at/byteBits]) >> (r.at % byteBits) & 1
	r.at++
	return bit
}
