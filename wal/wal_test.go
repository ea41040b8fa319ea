package wal_test

import (
	"bytes"
	"encoding/binary"
	"encoding/hex"
	"fmt"
	"hash/crc32"
	"slices"
	"testing"

	"staddle/api"
	"staddle/wal"
)

// filled is n bytes, none of them a nought, that differ from their neighbours and from those of another seed.
func filled(n, seed int) []byte {
	b := make([]byte, n)
	for i := range b {
		b[i] = byte(1 + (i*7+i/128*3+seed*31)%255)
	}
	return b
}

// onePiece is a piece of any kind, as the document tells it, by other means than the package's.
func onePiece(kind byte, body []byte) []byte {
	sum := crc32.Update(crc32.Checksum([]byte{kind}, crc32.MakeTable(crc32.Castagnoli)), crc32.MakeTable(crc32.Castagnoli), body)
	b := binary.LittleEndian.AppendUint32(nil, (sum>>15|sum<<17)+0xA282EAD8)
	b = binary.LittleEndian.AppendUint16(b, uint16(len(body)))
	return append(append(b, kind), body...)
}

// text is a piece of a text.
func text(kind byte, s string) []byte { return onePiece(kind, []byte(s)) }

// join is bytes that stand one behind the other, in memory without spare room.
func join(parts ...[]byte) []byte { return slices.Clip(bytes.Join(parts, nil)) }

// wholeUpTo is one whole piece that ends at a place of the first block.
func wholeUpTo(place int) []byte { return onePiece(1, filled(place-7, 5)) }

// puts lays a record, which must go well.
func puts(t testing.TB, at int, record []byte) []byte {
	t.Helper()
	b, err := wal.Put(at, record)
	if err != api.OK {
		t.Fatalf("Put(%d, %d bytes): %d", at, len(record), err)
	}
	return b
}

// lays lays records one behind the other, and tells behind which place each of them ends.
func lays(t testing.TB, records ...[]byte) (log []byte, ends []int) {
	t.Helper()
	for _, r := range records {
		log = append(log, puts(t, len(log), r)...)
		ends = append(ends, len(log))
	}
	return slices.Clip(log), ends
}

// short is a log or a record for people.
func short(b []byte) string {
	if len(b) <= 150 {
		return fmt.Sprintf("%d bytes % x", len(b), b)
	}
	return fmt.Sprintf("%d bytes % x ..", len(b), b[:150])
}

// reads tells a fault if a log is read otherwise than told.
func reads(t testing.TB, name string, b []byte, end, size int, records ...[]byte) {
	t.Helper()
	gotRecords, gotSize, gotEnd := wal.Read(b)
	if gotEnd != end || gotSize != size || !slices.EqualFunc(gotRecords, records, bytes.Equal) {
		t.Errorf("%s: Read of %s: end %d, not %d; size %d, not %d; records %.80q, not %.80q", name, short(b), gotEnd, end, gotSize, size, gotRecords, records)
	}
}

// readsText is reads with records that are texts.
func readsText(t testing.TB, name string, b []byte, end, size int, texts ...string) {
	t.Helper()
	records := make([][]byte, len(texts))
	for i, s := range texts {
		records[i] = []byte(s)
	}
	reads(t, name, b, end, size, records...)
}

// The sections "Types" and "Errors": the numbers are api's.
func TestNumbers(t *testing.T) {
	if api.ErrArg != 1 || api.ErrWalLong != 90 {
		t.Error("an error has another number than the document's")
	}
	if api.WalBlock != 128 || api.MaxRecord != 131072 || api.LClean != 0 || api.LTorn != 1 || api.LCorrupt != 2 {
		t.Error("a limit or an end has another number than the document's")
	}
}

// P9.1, P9.2: the chapter's examples, with all their bytes.
func TestExamples(t *testing.T) {
	for _, c := range []struct {
		at   int
		want string
	}{
		{0, "a4984482020001" + "6162"},
		{119, "a4984482020001" + "6162"},
		{120, "ea753d51010002" + "61" + "0569b98d010004" + "62"},
		{122, "000000000000" + "a4984482020001" + "6162"},
	} {
		if got := hex.EncodeToString(puts(t, c.at, []byte("ab"))); got != c.want {
			t.Errorf("Put(%d, ab): %s, not %s", c.at, got, c.want)
		}
	}
	b := puts(t, 0, []byte("ab"))
	readsText(t, "whole", b, api.LClean, 9, "ab")
	readsText(t, "without its last byte", b[:8], api.LTorn, 0)
	turned := slices.Clone(b)
	turned[8] ^= 1
	readsText(t, "turned, and a byte behind", append(turned, 0), api.LCorrupt, 0)
}

// "Types": a piece's bytes, one by one: the sum of the kind and the bytes, masked, and the lengths, the lowest byte first.
func TestPieceBytes(t *testing.T) {
	for _, c := range []struct {
		record []byte
		want   string
	}{
		{nil, "052b2843" + "0000" + "01"},
		{[]byte{0}, "5fb0ce81" + "0100" + "01" + "00"},
		{[]byte("ab"), "a4984482" + "0200" + "01" + "6162"},
	} {
		if got := hex.EncodeToString(puts(t, 0, c.record)); got != c.want {
			t.Errorf("Put(0, % x): %s, not %s", c.record, got, c.want)
		}
		if want := hex.EncodeToString(onePiece(1, c.record)); want != c.want {
			t.Errorf("the test's own piece of % x: %s, not %s", c.record, want, c.want)
		}
	}
	b := puts(t, 0, filled(121, 0))
	if len(b) != 128 || b[4] != 121 || b[5] != 0 || b[6] != 1 {
		t.Errorf("a whole block: %s", short(b))
	}
}
