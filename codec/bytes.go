package codec

import "slices"

const mostBytes = 8

// Be is a number's bytes, the highest first.
func Be(n uint64, size int) []byte {
	b := Le(n, size)
	slices.Reverse(b)
	return b
}

// Le is a number's bytes, the lowest first.
func Le(n uint64, size int) []byte {
	if size < 1 || size > mostBytes {
		return nil
	}
	b := make([]byte, size)
	for i := range size {
		b[i] = byte(n >> (8 * i))
	}
	return b
}

// GetBe is the number whose bytes stand there, the highest first.
func GetBe(b []byte, at, size int) (uint64, bool) {
	if !stands(b, at, size) {
		return 0, false
	}
	n := uint64(0)
	for i := range size {
		n = n<<8 | uint64(b[at+i])
	}
	return n, true
}

// GetLe is the number whose bytes stand there, the lowest first.
func GetLe(b []byte, at, size int) (uint64, bool) {
	if !stands(b, at, size) {
		return 0, false
	}
	n := uint64(0)
	for i := range size {
		n |= uint64(b[at+i]) << (8 * i)
	}
	return n, true
}

// stands tells if a number of that size stands at the place.
func stands(b []byte, at, size int) bool {
	if size < 1 || size > mostBytes || at < 0 {
		return false
	}
	// at+size might be beyond an int: the size is taken off, not put on.
	return at <= len(b)-size
}
