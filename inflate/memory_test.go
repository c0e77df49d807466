package inflate_test

import (
	"bytes"
	"testing"

	"drayage/api"
	"drayage/inflate"
)

// spoil writes over bytes and all the memory that they have, and grows them.
func spoil(b []byte) {
	b = b[:cap(b)]
	for i := range b {
		b[i] ^= 0x5a
	}
	_ = append(b, 9, 9, 9)
}

// P4.3: what is handed in stays, also what lies behind its length, which isn't read.
func TestBytesStay(t *testing.T) {
	for _, packed := range packings() {
		for n := range len(packed) + 1 {
			b := bytes.Clone(packed)
			out, used, e := inflate.Inflate(b[:n], api.MaxOut)
			if !bytes.Equal(b, packed) {
				t.Errorf("%d bytes of %x: %x is left", n, packed, b)
			}
			alone, aloneUsed, aloneE := inflate.Inflate(bytes.Clone(packed[:n]), api.MaxOut)
			if !bytes.Equal(out, alone) || used != aloneUsed || e != aloneE {
				t.Errorf("%d bytes of %x: %x %d %d, alone %x %d %d", n, packed, out, used, e, alone, aloneUsed, aloneE)
			}
		}
	}
}

// P4.3: an answer may be written over and grown, and so may what was handed in: nothing else changes by it.
func TestAnswersAreNew(t *testing.T) {
	for _, packed := range packings() {
		b := bytes.Clone(packed)
		kept, used, e := inflate.Inflate(b, api.MaxOut)
		if e != api.OK {
			t.Fatalf("%x: %d", packed, e)
		}
		want := bytes.Clone(kept)
		other, _, _ := inflate.Inflate(b, api.MaxOut)
		spoil(other)
		if !bytes.Equal(b, packed) || !bytes.Equal(kept, want) {
			t.Errorf("%x: an answer that is spoiled leaves %x, %x", packed, b, kept)
		}
		again, againUsed, e := inflate.Inflate(b, api.MaxOut)
		if !bytes.Equal(again, want) || againUsed != used || e != api.OK {
			t.Errorf("%x: %x %d, again %x %d %d", packed, want, used, again, againUsed, e)
		}
		spoil(b)
		if !bytes.Equal(kept, want) || !bytes.Equal(again, want) {
			t.Errorf("%x: an answer became %x, %x from %x", packed, kept, again, want)
		}
	}
}

// P4.3: an answer has no memory behind its length.
func TestAnswersAreCutToTheirLength(t *testing.T) {
	for n := range 300 {
		data := someBytes(n)
		for _, bits := range []string{fixedOf(data), storedAt(0, data)} {
			out, _, e := inflate.Inflate(bytesOf(last(bits)), n)
			if len(out) != n || cap(out) != n || e != api.OK {
				t.Errorf("%d bytes: %d of %d, %d", n, len(out), cap(out), e)
			}
		}
	}
}
