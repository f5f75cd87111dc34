// Package words is layer 1: unsigned integers as bytes: see shared/doc/01-words.md.
package words

import "aqueduct/api"

// maxSize is the number of bytes of the widest number.
const maxSize = 8

// Get returns the number that is encoded in the n bytes of s from offset at on.
func Get(s string, at, n int, big bool) (uint64, api.Errno) {
	if !isSize(n) {
		return 0, api.ErrArg
	}
	if !holds(s, at, n) {
		return 0, api.ErrWordsAt
	}
	var v uint64
	for i := range n {
		v |= uint64(s[at+i]) << shift(i, n, big)
	}
	return v, api.OK
}

// Put returns the encoding of v in n bytes.
func Put(v uint64, n int, big bool) (string, api.Errno) {
	if !isSize(n) || !fits(v, n) {
		return "", api.ErrArg
	}
	b := make([]byte, n)
	for i := range n {
		b[i] = byte(v >> shift(i, n, big))
	}
	return string(b), api.OK
}

// Set returns s with the encoding of v in the n bytes from offset at on.
func Set(s string, at int, v uint64, n int, big bool) (string, api.Errno) {
	b, e := Put(v, n, big)
	if e != api.OK {
		return "", e
	}
	if !holds(s, at, n) {
		return "", api.ErrWordsAt
	}
	return s[:at] + b + s[at+n:], api.OK
}

// Turn returns the bytes of s in reverse order.
func Turn(s string) string {
	b := make([]byte, len(s))
	for i := range len(s) {
		b[len(s)-1-i] = s[i]
	}
	return string(b)
}

// isSize reports whether a number may have n bytes.
func isSize(n int) bool { return 1 <= n && n <= maxSize }

// holds reports whether s has n bytes from offset at on. Here n is a size
// already, so the difference can't overflow, as the sum at + n could.
func holds(s string, at, n int) bool { return 0 <= at && at <= len(s)-n }

// fits reports whether v is below 2^(8 n). A shift by 64 leaves 0, so every
// number fits into eight bytes.
func fits(v uint64, n int) bool { return v>>(8*n) == 0 }

// shift returns by how many bits byte i of n is shifted within its number.
func shift(i, n int, big bool) int {
	if big {
		return 8 * (n - 1 - i)
	}
	return 8 * i
}
