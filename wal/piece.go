package wal

import (
	"iter"

	"staddle/api"
	"staddle/codec"
)

// Bytes of what stands ahead of a piece's own.
const (
	sumSize   = 4
	countSize = 2
	kindSize  = 1
	headSize  = sumSize + countSize + kindSize
)

// Kinds of pieces.
const (
	whole  = 1
	first  = 2
	middle = 3
	last   = 4
)

// piece is a piece that was read, and the place behind it.
type piece struct {
	kind   byte
	body   []byte
	behind int
}

// begins tells whether a record begins with it.
func (p piece) begins() bool { return p.kind == whole || p.kind == first }

// ends tells whether a record ends with it.
func (p piece) ends() bool { return p.kind == whole || p.kind == last }

// kindOf is the kind of a piece with which a record begins, or ends, or neither.
func kindOf(begins, ends bool) byte {
	switch {
	case begins && ends:
		return whole
	case begins:
		return first
	case ends:
		return last
	}
	return middle
}

// leftInBlock is how many bytes are left in the block at a place.
func leftInBlock(at int) int { return api.WalBlock - at%api.WalBlock }

// sumOf is a piece's check sum.
func sumOf(kind byte, body []byte) uint64 {
	return uint64(codec.Mask(codec.Crc(append([]byte{kind}, body...))))
}

// pieceBytes are a piece's bytes.
func pieceBytes(kind byte, body []byte) []byte {
	out := codec.PutFixed(nil, sumOf(kind, body), sumSize)
	out = append(out, codec.PutFixed(nil, uint64(len(body)), countSize)...)
	out = append(out, kind)
	return append(out, body...)
}

// pieces goes through a log's pieces, each with LClean; one that can't be read, with how the reading ends there, is the last.
func pieces(b []byte) iter.Seq2[piece, int] {
	return func(yield func(piece, int) bool) {
		for at := 0; at < len(b); {
			if left := leftInBlock(at); left < headSize {
				at += left
				continue
			}
			p, fault := pieceAt(b, at)
			if !yield(p, fault) || fault != api.LClean {
				return
			}
			at = p.behind
		}
	}
}

// pieceAt is the piece at a place of a log; or why there is none.
func pieceAt(b []byte, at int) (p piece, fault int) {
	rest := b[at:]
	if len(rest) < headSize {
		return piece{}, api.LTorn
	}
	sum, _ := codec.Fixed(rest, sumSize)
	count, _ := codec.Fixed(rest[sumSize:], countSize)
	size := headSize + int(count)
	// Ahead of the bytes that are there: what no block has room for was never laid, so it was not cut either.
	if size > leftInBlock(at) {
		return piece{}, api.LCorrupt
	}
	if size > len(rest) {
		return piece{}, api.LTorn
	}
	p = piece{kind: rest[headSize-kindSize], body: rest[headSize:size], behind: at + size}
	if sum != sumOf(p.kind, p.body) {
		// The last piece may have its room, but not its bytes: it was not laid to its end.
		if size == len(rest) {
			return piece{}, api.LTorn
		}
		return piece{}, api.LCorrupt
	}
	if p.kind < whole || p.kind > last {
		return piece{}, api.LCorrupt
	}
	return p, api.LClean
}
