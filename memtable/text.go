package memtable

import (
	"math/bits"
	"strings"

	"staddle/api"
	"staddle/codec"
)

// Lists have texts, byte by byte, so a key's text is made such that texts stand as ikey.Compare has their keys. A user's bytes of 0 are marked, for 0 0 ends it: so a user that begins with another one stands behind all keys of that one, whatever their numbers are.
const (
	zero   = "\x00"
	marked = "\x00\x01"
	end    = "\x00\x00"
)

const (
	tail     = 8 // bytes of a text behind the user's end
	kindBits = 8 // the lowest bits of what stands there are the kind's
)

// textOf is the text of a key that may be.
func textOf(k api.IKey) string {
	n := falling(k.Seq<<kindBits | uint64(k.Kind))
	return strings.ReplaceAll(k.User, zero, marked) + end + string(codec.PutFixed(nil, n, tail))
}

// keyOf is the key of a text.
func keyOf(text string) api.IKey {
	user, last := text[:len(text)-tail-len(end)], text[len(text)-tail:]
	n, _ := codec.Fixed([]byte(last), tail)
	n = rising(n)
	return api.IKey{User: strings.ReplaceAll(user, marked, zero), Seq: n >> kindBits, Kind: int(n & (1<<kindBits - 1))}
}

// falling turns a number such that its bytes, which codec lays the lowest first, are the less the greater it is.
func falling(n uint64) uint64 { return ^bits.ReverseBytes64(n) }

// rising turns it back.
func rising(n uint64) uint64 { return bits.ReverseBytes64(^n) }
