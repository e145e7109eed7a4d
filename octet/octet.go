// Package octet is layer 1: see shared/doc/01-octet.md.
package octet

import (
	"math/bits"
	"strings"

	"timeball/api"
)

// wordBytes is how many bytes the greatest number has.
const wordBytes = 8

// Put tells a number's lowest bytes, the highest of these first; fewer than none count as none, more than 8 as 8.
func Put(n uint64, bytes int) string {
	count := min(max(bytes, 0), wordBytes)
	told := make([]byte, count)
	for i := range count {
		told[count-1-i] = byte(n >> (8 * i))
	}
	return string(told)
}

// Take tells the number of bytes, the highest first; more than 8 bytes are ErrSize.
func Take(s string) (uint64, api.Errno) {
	if len(s) > wordBytes {
		return 0, api.ErrSize
	}
	var n uint64
	for i := range len(s) {
		n = n<<8 | uint64(s[i])
	}
	return n, api.OK
}

// Left turns bits round to the left, or to the right where by is below 0.
func Left(n uint32, by int) uint32 {
	return bits.RotateLeft32(n, by)
}

// Same tells whether texts are the same.
//
// It never ends early: the time it takes must not tell how much of a guessed tag was right.
func Same(a, b string) bool {
	var unlike byte
	for i := range min(len(a), len(b)) {
		unlike |= a[i] ^ b[i]
	}
	return unlike == 0 && len(a) == len(b)
}

// Parts tells a text in parts of so many bytes, the last one of what is left.
func Parts(s string, bytes int) []string {
	if s == "" || bytes < 1 {
		return nil
	}
	count := (len(s)-1)/bytes + 1 // not (len(s)+bytes-1)/bytes, which wraps round where bytes is great
	parts := make([]string, count)
	for i := range count {
		rest := s[i*bytes:]
		parts[i] = rest[:min(bytes, len(rest))]
	}
	return parts
}

// Pad tells a text, filled up by bytes 0 to a multiple of so many bytes.
func Pad(s string, to int) string {
	if to < 1 || len(s)%to == 0 {
		return s
	}
	return s + strings.Repeat("\x00", to-len(s)%to)
}
