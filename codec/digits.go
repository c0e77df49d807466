package codec

import (
	"strconv"
	"strings"

	"drayage/api"
)

const (
	greatest    = 1<<62 - 1
	leastWidth  = 2
	mostWidth   = 12
	bitsOfOctal = 3
)

// Octal is a number in octal digits, and a byte 00.
func Octal(n, width int) (string, api.Errno) {
	if width < leastWidth || width > mostWidth || n < 0 {
		return "", api.ErrArg
	}
	digits := width - 1
	if n>>(bitsOfOctal*digits) != 0 {
		return "", api.ErrLarge
	}
	s := make([]byte, width)
	for i := range digits {
		s[i] = '0' + byte(n>>(bitsOfOctal*(digits-1-i))&7)
	}
	return string(s), api.OK
}

// Unoctal is the number of an octal field.
func Unoctal(s string) (int, api.Errno) {
	field := strings.TrimLeft(s, " ")
	end := leadingDigits(field, 8)
	if strings.Trim(field[end:], " \x00") != "" {
		return 0, api.ErrForm
	}
	return number(field[:end], 8)
}

// Dec is a number's decimal digits.
func Dec(n int) string {
	if n < 0 {
		return ""
	}
	return strconv.Itoa(n)
}

// Undec is the number of decimal digits.
func Undec(s string) (int, api.Errno) {
	if s == "" || leadingDigits(s, 10) < len(s) || s[0] == '0' && len(s) > 1 {
		return 0, api.ErrForm
	}
	return number(s, 10)
}

// leadingDigits is how many digits of a base up to ten stand at a text's beginning.
func leadingDigits(s string, base int) int {
	n := 0
	for n < len(s) && s[n] >= '0' && int(s[n]-'0') < base {
		n++
	}
	return n
}

// number is the number of digits, all of them of the base; ErrLarge, if it is above the greatest.
func number(digits string, base int) (int, api.Errno) {
	n := 0
	for i := range len(digits) {
		d := int(digits[i] - '0')
		// Asked ahead of the product, which might be beyond an int.
		if n > (greatest-d)/base {
			return 0, api.ErrLarge
		}
		n = n*base + d
	}
	return n, api.OK
}
