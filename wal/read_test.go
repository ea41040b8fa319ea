package wal_test

import (
	"slices"
	"testing"

	"staddle/api"
)

// P9.2: no bytes, and fewer than a piece's seven, whatever they are.
func TestReadOfFew(t *testing.T) {
	readsText(t, "nil", nil, api.LClean, 0)
	readsText(t, "none", []byte{}, api.LClean, 0)
	for n := 1; n < 7; n++ {
		for _, b := range [][]byte{make([]byte, n), filled(n, 1), slices.Repeat([]byte{0xff}, n), text(1, "")[:n], text(9, "")[:n]} {
			readsText(t, "few", b, api.LTorn, 0)
			readsText(t, "few behind a record", join(text(1, "ab"), b), api.LTorn, 9, "ab")
			readsText(t, "few behind a beginning", join(text(2, "ab"), b), api.LTorn, 0)
			// A block that is full is followed by another one, in which there is room.
			reads(t, "few in another block", join(wholeUpTo(128), b), api.LTorn, 128, filled(121, 5))
		}
	}
}

// P9.2: fewer than seven bytes left in a block are passed over, whatever they are, and if b ends in the midst of them.
func TestReadPassesOver(t *testing.T) {
	for left := 1; left < 7; left++ {
		head, record := wholeUpTo(128-left), filled(121-left, 5)
		for _, tail := range [][]byte{make([]byte, left), filled(left, 2), slices.Repeat([]byte{0xff}, left), text(1, "")[:left]} {
			for n := range left + 1 {
				reads(t, "passed over", join(head, tail[:n]), api.LClean, 128-left, record)
			}
			reads(t, "passed over", join(head, tail, text(1, "ab")), api.LClean, 137, record, []byte("ab"))
			reads(t, "passed over", join(head, tail, text(2, "ab"), text(4, "c")), api.LClean, 145, record, []byte("abc"))
			reads(t, "passed over, then torn", join(head, tail, text(1, "ab")[:3]), api.LTorn, 128-left, record)
			reads(t, "passed over, then corrupt", join(head, tail, text(5, "ab")), api.LCorrupt, 128-left, record)
			begun := onePiece(2, record)
			for n := range left + 1 {
				reads(t, "passed over in a record", join(begun, tail[:n]), api.LTorn, 0)
			}
			reads(t, "passed over in a record", join(begun, tail, text(4, "ab")), api.LClean, 137, append(slices.Clone(record), "ab"...))
			reads(t, "passed over in a record", join(begun, tail, text(3, "ab")), api.LTorn, 0)
		}
	}
}

// P9.2: seven left in a block are not passed over: they are a piece of none, or nothing that is one.
func TestReadOfSevenLeft(t *testing.T) {
	head, record := wholeUpTo(121), filled(114, 5)
	reads(t, "a whole one of none", join(head, text(1, "")), api.LClean, 128, record, nil)
	reads(t, "a first one of none", join(head, text(2, ""), text(4, "ab")), api.LClean, 137, record, []byte("ab"))
	reads(t, "a first one of none, alone", join(head, text(2, "")), api.LTorn, 121, record)
	reads(t, "noughts at the end", join(head, make([]byte, 7)), api.LTorn, 121, record)
	reads(t, "noughts with more behind", join(head, make([]byte, 7), text(1, "ab")), api.LCorrupt, 121, record)
	for n := 1; n < 7; n++ {
		reads(t, "noughts, cut", join(head, make([]byte, n)), api.LTorn, 121, record)
	}
	reads(t, "one byte where none has room", join(head, text(1, "a")), api.LCorrupt, 121, record)
}

// sized is a piece that says another number of bytes than it has, with the sum of those that it has.
func sized(says int, body []byte) []byte {
	b := onePiece(1, body)
	b[4], b[5] = byte(says), byte(says>>8)
	return b
}

// P9.2: a piece with more bytes than the block has room for, than b has, and both: the block's room is asked first.
func TestReadOfLengths(t *testing.T) {
	for _, c := range []struct {
		name string
		b    []byte
		end  int
	}{
		{"just the block's room, not there", sized(121, filled(10, 1)), api.LTorn},
		{"one more than the block's room, not there", sized(122, filled(10, 1)), api.LCorrupt},
		{"one more than the block's room, all there", onePiece(1, filled(122, 1)), api.LCorrupt},
		{"one more than the block's room, more behind", join(onePiece(1, filled(122, 1)), make([]byte, 200)), api.LCorrupt},
		{"one more than the block's room, one is missing", onePiece(1, filled(122, 1))[:128], api.LCorrupt},
		{"one more than the block's room, all but seven are missing", onePiece(1, filled(122, 1))[:7], api.LCorrupt},
		{"fewer than seven of such a one", onePiece(1, filled(122, 1))[:6], api.LTorn},
		{"256", sized(256, filled(10, 1)), api.LCorrupt},
		{"256, all there", onePiece(1, filled(256, 1)), api.LCorrupt},
		{"257, of which one is there", sized(257, filled(1, 1)), api.LCorrupt},
		{"the greatest", sized(65535, nil), api.LCorrupt},
		{"the greatest, all there", onePiece(1, filled(65535, 1)), api.LCorrupt},
		{"one more than b has", sized(11, filled(10, 1)), api.LTorn},
		{"one where b has none", sized(1, nil), api.LTorn},
		{"a kind that is none, and more than b has", onePiece(5, filled(10, 1))[:16], api.LTorn},
		{"a kind that is none, and more than the room", onePiece(5, filled(122, 1)), api.LCorrupt},
		{"a middle one, cut", onePiece(3, filled(10, 1))[:16], api.LTorn},
		{"a middle one, more than the room", onePiece(3, filled(122, 1))[:20], api.LCorrupt},
		{"one less than it has", sized(9, filled(10, 1)), api.LCorrupt},
	} {
		readsText(t, c.name, c.b, c.end, 0)
		readsText(t, c.name+", a beginning behind a block", join(wholeBlocks(3), c.b), c.end, 3*128, wholeTexts(3)...)
	}
}

// wholeBlocks are blocks of one whole record each.
func wholeBlocks(n int) []byte { return slices.Repeat(wholeUpTo(128), n) }

// wholeTexts are their records.
func wholeTexts(n int) []string { return slices.Repeat([]string{string(filled(121, 5))}, n) }

// P9.2: the room is the block's that is left behind the pieces ahead, not a whole block's.
func TestReadOfRoomLeft(t *testing.T) {
	for place := 7; place <= 121; place++ {
		head, record := wholeUpTo(place), filled(place-7, 5)
		room := 128 - place - 7
		reads(t, "just the room", join(head, onePiece(1, filled(room, 1))), api.LClean, 128, record, filled(room, 1))
		if room > 0 {
			reads(t, "just the room, cut", join(head, onePiece(1, filled(room, 1))[:room+6]), api.LTorn, place, record)
			reads(t, "just the room, none there", join(head, onePiece(1, filled(room, 1))[:7]), api.LTorn, place, record)
		}
		reads(t, "one more", join(head, onePiece(1, filled(room+1, 1))), api.LCorrupt, place, record)
		reads(t, "one more, cut", join(head, onePiece(1, filled(room+1, 1))[:7]), api.LCorrupt, place, record)
		reads(t, "fewer than seven", join(head, onePiece(1, filled(room+1, 1))[:6]), api.LTorn, place, record)
	}
}

// turned is bytes with a bit of one of them turned.
func turned(b []byte, i, bit int) []byte {
	out := slices.Clone(b)
	out[i] ^= 1 << bit
	return out
}

// P9.2: a sum that is not its own: torn where the piece ends with b, corrupt with a byte behind, in the middle, and so on.
func TestReadOfSums(t *testing.T) {
	b := text(1, "abc")
	for _, i := range []int{0, 1, 2, 3, 6, 7, 8, 9} {
		for bit := range 8 {
			bad := turned(b, i, bit)
			readsText(t, "at the end", bad, api.LTorn, 0)
			readsText(t, "a nought behind", join(bad, []byte{0}), api.LCorrupt, 0)
			readsText(t, "a byte behind", join(bad, []byte{0xff}), api.LCorrupt, 0)
			readsText(t, "a record behind", join(bad, b), api.LCorrupt, 0)
			readsText(t, "at the end, behind a record", join(b, bad), api.LTorn, 10, "abc")
			readsText(t, "in the middle", join(b, bad, b), api.LCorrupt, 10, "abc")
			readsText(t, "at the end, in a record", join(text(1, "x"), text(2, "y"), bad), api.LTorn, 8, "x")
			readsText(t, "in the middle of a record", join(text(1, "x"), text(2, "y"), bad, b), api.LCorrupt, 8, "x")
		}
	}
	readsText(t, "a sum that is not masked", []byte{0x52, 0xd0, 0x16, 0xa0, 0, 0, 1}, api.LTorn, 0)
	readsText(t, "noughts, seven", make([]byte, 7), api.LTorn, 0)
	readsText(t, "noughts, eight", make([]byte, 8), api.LCorrupt, 0)
	readsText(t, "noughts, a block", make([]byte, 128), api.LCorrupt, 0)
}

// P9.2: a sum that is not its own, of a piece that fills its block: with bytes passed over behind it b goes on.
func TestReadOfSumsAtABlocksEnd(t *testing.T) {
	full := turned(wholeUpTo(128), 127, 0)
	reads(t, "b ends with the block", full, api.LTorn, 0)
	reads(t, "b goes on", join(full, text(1, "")), api.LCorrupt, 0)
	nearly := turned(wholeUpTo(126), 125, 0)
	reads(t, "b ends with the piece", nearly, api.LTorn, 0)
	reads(t, "one byte is behind", join(nearly, []byte{0}), api.LCorrupt, 0)
	reads(t, "the block's rest is behind", join(nearly, []byte{0, 0}), api.LCorrupt, 0)
}

// P9.2: every kind but four is corrupt, at the end of b too; a sum that is not its own is asked ahead of it.
func TestReadOfKinds(t *testing.T) {
	for kind := range 256 {
		if 1 <= kind && kind <= 4 {
			continue
		}
		for _, body := range []string{"", "ab"} {
			b := text(byte(kind), body)
			readsText(t, "alone", b, api.LCorrupt, 0)
			readsText(t, "bytes behind", join(b, text(1, "c")), api.LCorrupt, 0)
			readsText(t, "behind a record", join(text(1, "c"), b), api.LCorrupt, 8, "c")
			readsText(t, "in a record", join(text(2, "c"), b), api.LCorrupt, 0)
			readsText(t, "another sum, at the end", turned(b, 0, 0), api.LTorn, 0)
			readsText(t, "another sum, bytes behind", join(turned(b, 0, 0), []byte{1}), api.LCorrupt, 0)
		}
	}
}
