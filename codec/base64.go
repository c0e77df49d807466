package codec

import (
	"strings"

	"drayage/api"
)

const base64Signs = "ABCDEFGHIJKLMNOPQRSTUVWXYZabcdefghijklmnopqrstuvwxyz0123456789+/"

// Base64 is bytes in signs of six bits.
func Base64(b []byte) string {
	s := make([]byte, 0, (len(b)+2)/3*4)
	for at := 0; at < len(b); at += 3 {
		four := fourSigns(b[at:])
		s = append(s, four[:]...)
	}
	return string(s)
}

// fourSigns is the signs of the first three bytes, or of as many as there are.
func fourSigns(b []byte) [4]byte {
	var three [3]byte
	had := copy(three[:], b)
	bits := int(three[0])<<16 | int(three[1])<<8 | int(three[2])
	var four [4]byte
	for i := range 4 {
		four[i] = '='
		if i <= had {
			four[i] = base64Signs[bits>>(18-6*i)&63]
		}
	}
	return four
}

// Unbase64 is the bytes of signs of six bits.
func Unbase64(s string) ([]byte, api.Errno) {
	if len(s)%4 != 0 {
		return nil, api.ErrShort
	}
	b := make([]byte, 0, len(s)/4*3)
	for at := 0; at < len(s); at += 4 {
		three, size := threeBytes(s[at : at+4])
		filled := size < 3
		if size == 0 || filled && at+4 < len(s) {
			return nil, api.ErrForm
		}
		b = append(b, three[:size]...)
	}
	return b, api.OK
}

// threeBytes is the bytes of four signs, and how many they are: none, if the signs are those of no bytes.
func threeBytes(signs string) ([3]byte, int) {
	had := strings.TrimRight(signs, "=")
	if len(had) < 2 {
		return [3]byte{}, 0
	}
	bits := 0
	for i := range 4 {
		bits <<= 6
		if i < len(had) {
			n := strings.IndexByte(base64Signs, had[i])
			if n < 0 {
				return [3]byte{}, 0
			}
			bits |= n
		}
	}
	three := [3]byte{byte(bits >> 16), byte(bits >> 8), byte(bits)}
	size := len(had) - 1
	// Signs whose filled-up bits aren't noughts give bytes, too, but are not what these bytes' Base64 is.
	if four := fourSigns(three[:size]); string(four[:]) != signs {
		return [3]byte{}, 0
	}
	return three, size
}
