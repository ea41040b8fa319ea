package block_test

import (
	"bytes"
	"encoding/binary"
	"math"
	"strings"
	"testing"

	"staddle/api"
	"staddle/block"
)

const topSeq = 1<<56 - 1

// put is an entry that puts.
func put(user string, seq uint64, value string) api.KV {
	return api.KV{Key: api.IKey{User: user, Seq: seq, Kind: api.Put}, Value: value}
}

// del is an entry that deletes.
func del(user string, seq uint64) api.KV {
	return api.KV{Key: api.IKey{User: user, Seq: seq, Kind: api.Delete}}
}

// text is n bytes.
func text(n int) string { return strings.Repeat("t", n) }

// numbered are n entries that rise, whose users share beginnings.
func numbered(n int) []api.KV {
	l := make([]api.KV, n)
	for i := range l {
		l[i] = put("u"+string([]byte{byte('a' + i/676), byte('a' + i/26%26), byte('a' + i%26)}), uint64(i), text(i%5))
	}
	return l
}

// part is an entry as it stands in bytes, of which each number may be a wrong one.
type part struct {
	same, left, size uint64
	rest, value      string
}

// keyBytes are a key's bytes, also those of one that may not be.
func keyBytes(k api.IKey) string {
	return k.User + string(binary.LittleEndian.AppendUint64(nil, k.Seq*256+uint64(k.Kind)))
}

// partsOf are entries' parts as the document tells them, whether they rise and may be or not.
func partsOf(l []api.KV, interval int) []part {
	parts := make([]part, len(l))
	for i, e := range l {
		key, same := keyBytes(e.Key), 0
		if i%interval != 0 {
			ahead := keyBytes(l[i-1].Key)
			for same < len(key) && strings.HasPrefix(ahead, key[:same+1]) {
				same++
			}
		}
		parts[i] = part{uint64(same), uint64(len(key) - same), uint64(len(e.Value)), key[same:], e.Value}
	}
	return parts
}

// join are the bytes of parts, and their marks' places, with a count and an interval that may be wrong ones.
func join(parts []part, interval int, told byte, count int) []byte {
	var b, places []byte
	for i, p := range parts {
		if i%interval == 0 {
			places = binary.LittleEndian.AppendUint32(places, uint32(len(b)))
		}
		for _, n := range []uint64{p.same, p.left, p.size} {
			b = binary.AppendUvarint(b, n)
		}
		b = append(b, p.rest+p.value...)
	}
	return binary.LittleEndian.AppendUint32(append(append(b, places...), told), uint32(count))
}

// marksOf is how many marks so many entries have.
func marksOf(n, interval int) int { return int(math.Ceil(float64(n) / float64(interval))) }

// laid are the bytes that the document tells, of entries that rise or not.
func laid(l []api.KV, interval int) []byte {
	return join(partsOf(l, interval), interval, byte(interval), marksOf(len(l), interval))
}

// builds are bytes that must be made.
func builds(t testing.TB, l []api.KV, interval int) []byte {
	t.Helper()
	b, err := block.Build(l, interval)
	if err != api.OK {
		t.Fatalf("Build(%d entries, %d): %d", len(l), interval, err)
	}
	return b
}

// refuses tells a fault if entries are not refused by that error, or bytes stand beside it.
func refuses(t testing.TB, name string, l []api.KV, interval int, want api.Errno) {
	t.Helper()
	if b, err := block.Build(l, interval); err != want || len(b) != 0 {
		t.Errorf("%s: Build(%.200v, %d): % x, %d, not %d", name, l, interval, b, err, want)
	}
}

// opens is a block that must be read.
func opens(t testing.TB, b []byte) *block.Block {
	t.Helper()
	x, err := block.Open(b)
	if err != api.OK || x == nil {
		t.Fatalf("Open of %d bytes % .200x: %d", len(b), b, err)
	}
	return x
}

// closed tells a fault if bytes are read as a block, or if one stands beside the error.
func closed(t testing.TB, name string, b []byte) {
	t.Helper()
	if x, err := block.Open(b); x != nil || err != api.ErrBlockForm {
		t.Errorf("%s: Open of %d bytes % .200x: %d entries, %d", name, len(b), b, x.Len(), err)
	}
}

// holds tells a fault if a block has other entries than told.
func holds(t testing.TB, x *block.Block, l []api.KV) {
	t.Helper()
	if n := x.Len(); n != len(l) {
		t.Fatalf("Len is %d, not %d", n, len(l))
	}
	for i, want := range l {
		if e, err := x.At(i); e != want || err != api.OK {
			t.Fatalf("At(%d) of %d: %v, %d, not %v", i, len(l), e, err, want)
		}
	}
	for _, i := range []int{-1, len(l), len(l) + 1, len(l) + 16, math.MinInt, math.MaxInt} {
		if e, err := x.At(i); e != (api.KV{}) || err != api.ErrArg {
			t.Fatalf("At(%d) of %d: %v, %d", i, len(l), e, err)
		}
	}
}

// both tells a fault if entries are laid otherwise than the document tells, or are not read as they were.
func both(t testing.TB, l []api.KV, interval int) {
	t.Helper()
	b := builds(t, l, interval)
	if want := laid(l, interval); !bytes.Equal(b, want) {
		t.Fatalf("Build(%.200v, %d): % .200x, not % .200x", l, interval, b, want)
	}
	holds(t, opens(t, b), l)
}

// The section "Errors": the numbers are api's, and each is answered.
func TestErrorNumbers(t *testing.T) {
	refuses(t, "an interval", nil, 0, 1)
	refuses(t, "a key", []api.KV{put(text(65), 1, "")}, 1, 21)
	refuses(t, "a number", []api.KV{put("a", topSeq+1, "")}, 1, 22)
	refuses(t, "a kind", []api.KV{{Key: api.IKey{User: "a", Seq: 1, Kind: 2}}}, 1, 23)
	refuses(t, "a value", []api.KV{put("a", 1, text(1001))}, 1, 31)
	refuses(t, "an order", []api.KV{put("a", 1, ""), put("a", 1, "")}, 1, 110)
	if _, err := block.Open(nil); err != 111 {
		t.Errorf("Open of no bytes: %d", err)
	}
	if _, err := opens(t, builds(t, nil, 1)).At(0); err != 1 {
		t.Errorf("At of none: %d", err)
	}
}

// The chapter's examples.
func TestExamples(t *testing.T) {
	if b := builds(t, nil, 1); !bytes.Equal(b, []byte{1, 0, 0, 0, 0}) {
		t.Errorf("no entries: % x", b)
	}
	l := []api.KV{put("ab", 1, "x"), put("ac", 1, "")}
	b := builds(t, l, 2)
	want := "\x00\x0a\x01ab\x01\x01\x00\x00\x00\x00\x00\x00x" + "\x01\x09\x00c\x01\x01\x00\x00\x00\x00\x00\x00" + "\x00\x00\x00\x00" + "\x02" + "\x01\x00\x00\x00"
	if string(b) != want {
		t.Errorf("two entries: % x", b)
	}
	x := opens(t, b)
	holds(t, x, l)
	finds(t, x, api.IKey{User: "ab", Seq: 9}, 0)
	finds(t, x, api.IKey{User: "ab"}, 1)
	closed(t, "none", nil)
	closed(t, "a byte behind", append(b, 0))
}

// R1: a block that is nil, and one that no Open gave.
func TestNilAndEmptyBlocks(t *testing.T) {
	var none *block.Block
	for name, x := range map[string]*block.Block{"nil": none, "hand-made": {}, "new": new(block.Block)} {
		if n := x.Len(); n != 0 {
			t.Errorf("%s: Len is %d", name, n)
		}
		for _, i := range []int{-1, 0, 1, math.MinInt, math.MaxInt} {
			if e, err := x.At(i); e != (api.KV{}) || err != api.ErrArg {
				t.Errorf("%s: At(%d): %v, %d", name, i, e, err)
			}
		}
		for _, k := range []api.IKey{{}, {User: "a", Seq: 1, Kind: 1}, {User: "\xff", Seq: math.MaxUint64, Kind: -1}} {
			if n := x.Find(k); n != 0 {
				t.Errorf("%s: Find(%v) is %d", name, k, n)
			}
		}
	}
}
