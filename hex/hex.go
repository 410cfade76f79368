// Package hex is layer 1, bytes as digits: see shared/doc/01-hex.md.
package hex

import (
	"incognito/api"
)

const digits = "0123456789abcdef"

// most is how many bytes a number of 64 bits has.
const most = 8

// Encode tells each byte by two digits, the higher one first.
func Encode(b ...byte) string {
	text := make([]byte, 0, 2*len(b))
	for _, c := range b {
		text = append(text, digits[c>>4], digits[c&15])
	}
	return string(text)
}

// Decode answers the bytes whose Encode s is; ErrSyntax: there are none such.
func Decode(s string) ([]byte, api.Errno) {
	if len(s)%2 != 0 {
		return nil, api.ErrSyntax
	}
	b := make([]byte, len(s)/2)
	for i := range s {
		// A sign of several bytes is judged by its first one, which is no digit:
		// as a number cut down to a byte it might pass for one.
		d := Digit(s[i])
		if d < 0 {
			return nil, api.ErrSyntax
		}
		b[i/2] = b[i/2]<<4 | byte(d)
	}
	return b, api.OK
}

// Digit answers what c stands for; -1, if it is no digit. Capital letters are
// none, so that each text has one reading.
func Digit(c byte) int {
	switch {
	case '0' <= c && c <= '9':
		return int(c - '0')
	case 'a' <= c && c <= 'f':
		return int(c-'a') + 10
	}
	return -1
}

// Big answers n modulo 256^size in size bytes, the highest first: none of a
// size below 1, eight of one above 8.
func Big(n uint64, size int) []byte {
	if size < 1 {
		return nil
	}
	b := make([]byte, min(size, most))
	for i := len(b) - 1; i >= 0; i-- {
		b[i] = byte(n)
		n >>= 8
	}
	return b
}

// Num answers the number whose Big b is; false of more bytes than Big gives.
func Num(b ...byte) (uint64, bool) {
	if len(b) > most {
		return 0, false
	}
	var n uint64
	for _, c := range b {
		n = n<<8 | uint64(c)
	}
	return n, true
}
