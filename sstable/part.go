package sstable

import (
	"staddle/codec"
)

// sumSize is how many bytes of a part its sum has.
const sumSize = 4

// place is a part's: its first byte's, and how many bytes it has without its sum's. Both are held as they are told: a number may be far above any place there is.
type place struct{ at, size uint64 }

// end is the place behind a part.
func (p place) end() uint64 { return p.at + p.size + sumSize }

// part are the bytes at a place, the sum's too, cut so that none of what stands behind them belongs to them.
func (p place) part(b []byte) []byte { return b[p.at:p.end():p.end()] }

// value is a place as an index tells it.
func (p place) value() string {
	return string(codec.PutUvarint(codec.PutUvarint(nil, p.at), p.size))
}

// placeOf is the place that a value tells, if an index tells it just so.
func placeOf(value string) (p place, ok bool) {
	b := []byte(value)
	at, k, _ := codec.Uvarint(b)
	size, _, _ := codec.Uvarint(b[k:])
	p = place{at, size}
	// Held against what is laid: bytes that are no numbers, or more of them than are needed, are others.
	return p, p.value() == value
}

// lay are bytes with a part behind them, and its place.
func lay(b, body []byte) ([]byte, place) {
	p := place{uint64(len(b)), uint64(len(body))}
	b = append(b, body...)
	return append(b, codec.PutFixed(nil, sumOf(body), sumSize)...), p
}

// bodyOf are a part's bytes without its sum's; and whether that is theirs.
func bodyOf(part []byte) (body []byte, ok bool) {
	n := len(part) - sumSize
	body = part[:n:n]
	sum, _ := codec.Fixed(part[n:], sumSize)
	return body, sum == sumOf(body)
}

// sumOf is a part's sum, as it is laid.
func sumOf(body []byte) uint64 { return uint64(codec.Mask(codec.Crc(body))) }
