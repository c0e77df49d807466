package codec

import (
	"strings"

	"drayage/api"
)

const hexDigits = "0123456789abcdef"

// Hex is bytes in hexadecimal digits.
func Hex(b []byte) string {
	s := make([]byte, 0, 2*len(b))
	for _, c := range b {
		s = append(s, hexDigits[c>>4], hexDigits[c&15])
	}
	return string(s)
}

// Unhex is the bytes of hexadecimal digits.
func Unhex(s string) ([]byte, api.Errno) {
	b := make([]byte, len(s)/2)
	for i := range len(s) {
		n := strings.IndexByte(hexDigits, s[i])
		if n < 0 {
			return nil, api.ErrForm
		}
		// The last digit of an odd number of them has no byte: it is looked at for its form alone.
		if i/2 < len(b) {
			b[i/2] = b[i/2]<<4 | byte(n)
		}
	}
	if len(s)%2 != 0 {
		return nil, api.ErrShort
	}
	return b, api.OK
}

// Hex8 is a number in eight hexadecimal digits.
func Hex8(n int) (string, api.Errno) {
	if n < 0 || n > 1<<32-1 {
		return "", api.ErrArg
	}
	return Hex(Be(uint64(n), 4)), api.OK
}

// Unhex8 is the number of eight hexadecimal digits.
func Unhex8(s string) (int, api.Errno) {
	if len(s) != 8 {
		return 0, api.ErrShort
	}
	n := 0
	for i := range len(s) {
		d := strings.IndexByte(hexDigits, smallLetter(s[i]))
		if d < 0 {
			return 0, api.ErrForm
		}
		n = n<<4 | d
	}
	return n, api.OK
}

func smallLetter(c byte) byte {
	if c >= 'A' && c <= 'Z' {
		return c - 'A' + 'a'
	}
	return c
}
