// Package codec is layer 1: numbers, texts and check sums as bytes: see shared/doc/01-codec.md.
package codec

import (
	"staddle/api"
)

const (
	more       = 0x80 // the bit of a byte that another one is behind
	maxUvarint = 10   // bytes that a number has at most, in sevens of bits
	maxFixed   = 8    // bytes that a number has at most, whole
)

// PutUvarint lays a number behind bytes.
func PutUvarint(b []byte, n uint64) []byte {
	return layUvarint(own(b, maxUvarint), n)
}

// Uvarint is the number that bytes begin with, and how many it has.
func Uvarint(b []byte) (n uint64, k int, err api.Errno) {
	for i, c := range b {
		// Nine bytes hold 63 bits: a tenth has room for one, and none is behind it.
		if i == maxUvarint-1 && c > 1 {
			return 0, 0, api.ErrCodecLong
		}
		n |= uint64(c&^more) << (7 * i)
		if c < more {
			return n, i + 1, api.OK
		}
	}
	return 0, 0, api.ErrCodecShort
}

// PutFixed lays a number of so many bytes behind bytes.
func PutFixed(b []byte, n uint64, size int) []byte {
	if !fits(size) {
		return own(b, 0)
	}
	out := own(b, size)
	for i := range size {
		out = append(out, byte(n>>(8*i)))
	}
	return out
}

// Fixed is the number of so many bytes that bytes begin with.
func Fixed(b []byte, size int) (uint64, api.Errno) {
	if !fits(size) {
		return 0, api.ErrArg
	}
	if len(b) < size {
		return 0, api.ErrCodecShort
	}
	n := uint64(0)
	for i, c := range b[:size] {
		n |= uint64(c) << (8 * i)
	}
	return n, api.OK
}

// PutText lays a text behind bytes.
func PutText(b []byte, s string) []byte {
	out := layUvarint(own(b, maxUvarint+len(s)), uint64(len(s)))
	return append(out, s...)
}

// Text is the text that bytes begin with, and how many it has.
func Text(b []byte) (s string, k int, err api.Errno) {
	n, k, err := Uvarint(b)
	if err != api.OK {
		return "", 0, err
	}
	rest := b[k:]
	// Held against each other as they are: a length above an int's would turn below 0.
	if n > uint64(len(rest)) {
		return "", 0, api.ErrCodecShort
	}
	return string(rest[:n]), k + int(n), api.OK
}

// own is bytes in memory of their own, with room behind them: what a caller's list has behind its end is the caller's.
func own(b []byte, room int) []byte {
	return append(make([]byte, 0, len(b)+room), b...)
}

// layUvarint lays a number behind bytes that are the package's own.
func layUvarint(b []byte, n uint64) []byte {
	for n >= more {
		b = append(b, byte(n)|more)
		n >>= 7
	}
	return append(b, byte(n))
}

// fits tells whether a number may have so many bytes.
func fits(size int) bool { return 1 <= size && size <= maxFixed }
