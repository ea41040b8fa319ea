package sstable_test

import (
	"bytes"
	"encoding/binary"
	"hash/crc32"
	"math"
	"slices"
	"strings"
	"testing"

	"staddle/api"
	"staddle/block"
	"staddle/bloom"
	"staddle/sstable"
)

const topSeq = 1<<56 - 1

// usual are options under which a few entries have a few blocks.
var usual = api.Options{Block: 60, Interval: 2, Bits: 10}

// put is an entry that puts.
func put(user string, seq uint64, value string) api.KV {
	return api.KV{Key: api.IKey{User: user, Seq: seq, Kind: api.Put}, Value: value}
}

// del is an entry that deletes.
func del(user string, seq uint64) api.KV {
	return api.KV{Key: api.IKey{User: user, Seq: seq, Kind: api.Delete}}
}

// text is n bytes.
func text(n int) string { return strings.Repeat("t", n) }

// numbered are n entries that rise: of each user three, of which the second one deletes.
func numbered(n int) []api.KV {
	l := make([]api.KV, n)
	for i := range l {
		u := i / 3
		l[i] = put("u"+string([]byte{byte('a' + u/676), byte('a' + u/26%26), byte('a' + u%26)}), uint64(90-20*(i%3)), "v"+text(i%5))
		if i%3 == 1 {
			l[i].Key.Kind, l[i].Value = api.Delete, ""
		}
	}
	return l
}

// made is a table by hand, of which each thing may be a wrong one.
type made struct {
	blocks   [][]byte // without their sums
	filter   []byte
	index    []api.KV
	interval int // of the index
	count    int
}

// sumBytes are the four bytes behind a part's own.
func sumBytes(body []byte) []byte {
	sum := crc32.Checksum(body, crc32.MakeTable(crc32.Castagnoli))
	return binary.LittleEndian.AppendUint32(nil, (sum>>15|sum<<17)+0xA282EAD8)
}

// placeText are the numbers of a place.
func placeText(at, size int) string {
	return string(binary.AppendUvarint(binary.AppendUvarint(nil, uint64(at)), uint64(size)))
}

// blockOf is a block that must be made.
func blockOf(l []api.KV, interval int) []byte {
	b, err := block.Build(l, interval)
	if err != api.OK {
		panic(err)
	}
	return b
}

// filterOf is the filter for entries that must be made.
func filterOf(l []api.KV, bits float64) []byte {
	var users []string
	for _, e := range l {
		users = append(users, e.Key.User)
	}
	b, err := bloom.Build(users, bits)
	if err != api.OK {
		panic(err)
	}
	return b
}

// handMade is a table of lists, each of them a block, whether they rise from one to the next or not.
func handMade(interval int, lists ...[]api.KV) made {
	m := made{interval: 1}
	at := 0
	for _, l := range lists {
		b := blockOf(l, interval)
		m.blocks = append(m.blocks, b)
		m.index = append(m.index, api.KV{Key: l[len(l)-1].Key, Value: placeText(at, len(b))})
		at += len(b) + 4
		m.count += len(l)
	}
	m.filter = filterOf(slices.Concat(lists...), 10)
	return m
}

// joined are parts, each with its sum, and the places of the last two, with what stands behind them.
func joined(parts [][]byte, count int) []byte {
	var b []byte
	var places []int
	for _, body := range parts {
		places = append(places, len(b), len(body))
		b = append(append(b, body...), sumBytes(body)...)
	}
	for _, n := range append(places[len(places)-4:], count) {
		b = binary.LittleEndian.AppendUint32(b, uint32(n))
	}
	return append(b, "staddle1"...)
}

// bytes are a table's.
func (m made) bytes() []byte { return m.withIndex(blockOf(m.index, m.interval)) }

// withIndex are a table's bytes, with any bytes as its index.
func (m made) withIndex(index []byte) []byte {
	return joined(slices.Concat(m.blocks, [][]byte{m.filter, index}), m.count)
}

// parted are entries in lists, as the document parts them: each is tried with one entry more.
func parted(l []api.KV, o api.Options) [][]api.KV {
	var lists [][]api.KV
	var some []api.KV
	for i, e := range l {
		some = append(some, e)
		if len(blockOf(some, o.Interval)) >= o.Block || i == len(l)-1 {
			lists, some = append(lists, some), nil
		}
	}
	return lists
}

// laid is the table that the document tells.
func laid(l []api.KV, o api.Options) made {
	m := handMade(o.Interval, parted(l, o)...)
	m.filter = filterOf(l, o.Bits)
	return m
}

// builds are bytes that must be made.
func builds(t testing.TB, l []api.KV, o api.Options) []byte {
	t.Helper()
	b, err := sstable.Build(l, o)
	if err != api.OK {
		t.Fatalf("Build(%d entries, %v): %d", len(l), o, err)
	}
	return b
}

// refuses tells a fault if entries are not refused by that error, or bytes stand beside it.
func refuses(t testing.TB, name string, l []api.KV, o api.Options, want api.Errno) {
	t.Helper()
	if b, err := sstable.Build(l, o); err != want || len(b) != 0 {
		t.Errorf("%s: Build(%.200v, %v): % .100x, %d, not %d", name, l, o, b, err, want)
	}
}

// opens is a table that must be read.
func opens(t testing.TB, b []byte) *sstable.Table {
	t.Helper()
	x, err := sstable.Open(b)
	if err != api.OK || x == nil {
		t.Fatalf("Open of %d bytes % .200x: %d", len(b), b, err)
	}
	return x
}

// closed tells a fault if bytes are not refused by that error, or if a table stands beside it.
func closed(t testing.TB, name string, b []byte, want api.Errno) {
	t.Helper()
	if x, err := sstable.Open(b); x != nil || err != want {
		t.Errorf("%s: Open of %d bytes % .200x: %d blocks, %d, not %d", name, len(b), b, x.Blocks(), err, want)
	}
}

// holds tells a fault if a table has other entries than told.
func holds(t testing.TB, x *sstable.Table, l []api.KV) {
	t.Helper()
	if all, err := x.All(); !slices.Equal(all, l) || err != api.OK {
		t.Fatalf("All: %.300v, %d, not %.300v", all, err, l)
	}
}

// broken tells a fault if All does not answer that error, or if entries stand beside it.
func broken(t testing.TB, name string, x *sstable.Table, want api.Errno) {
	t.Helper()
	if all, err := x.All(); len(all) != 0 || err != want {
		t.Errorf("%s: All: %.300v, %d, not %d", name, all, err, want)
	}
}

// gets tells a fault if Get answers otherwise.
func gets(t testing.TB, x *sstable.Table, user string, seq uint64, value string, what int) {
	t.Helper()
	if v, w, err := x.Get(user, seq); v != value || w != what || err != api.OK {
		t.Fatalf("Get(%q, %d): %q, %d, %d, not %q, %d", user, seq, v, w, err, value, what)
	}
}

// fails tells a fault if Get does not answer that error, or if something stands beside it.
func fails(t testing.TB, x *sstable.Table, user string, seq uint64, want api.Errno) {
	t.Helper()
	if v, w, err := x.Get(user, seq); v != "" || w != api.None || err != want {
		t.Fatalf("Get(%q, %d): %q, %d, %d, not %d", user, seq, v, w, err, want)
	}
}

// known is what entries that rise tell of a user at a number.
func known(l []api.KV, user string, seq uint64) (value string, what int) {
	for _, e := range l {
		if e.Key.User == user && e.Key.Seq <= seq {
			if e.Key.Kind == api.Delete {
				return "", api.Deleted
			}
			return e.Value, api.There
		}
	}
	return "", api.None
}

// both tells a fault if entries are laid otherwise than the document tells, or are not read as they were.
func both(t testing.TB, l []api.KV, o api.Options) {
	t.Helper()
	b, want := builds(t, l, o), laid(l, o)
	if !bytes.Equal(b, want.bytes()) {
		t.Fatalf("Build(%.200v, %v): % .300x, not % .300x", l, o, b, want.bytes())
	}
	x := opens(t, b)
	if n := x.Blocks(); n != len(want.blocks) {
		t.Fatalf("Blocks is %d, not %d", n, len(want.blocks))
	}
	holds(t, x, l)
}

// The section "Errors": the numbers are api's, and each is answered.
func TestErrorNumbers(t *testing.T) {
	one := []api.KV{put("a", 1, "")}
	refuses(t, "a block", one, api.Options{Block: 0, Interval: 1, Bits: 1}, 1)
	refuses(t, "bits", one, api.Options{Block: 1, Interval: 1}, 100)
	refuses(t, "none", nil, usual, 120)
	refuses(t, "a key", []api.KV{put(text(65), 1, "")}, usual, 21)
	refuses(t, "a number", []api.KV{put("a", topSeq+1, "")}, usual, 22)
	refuses(t, "a kind", []api.KV{{Key: api.IKey{User: "a", Seq: 1, Kind: 2}}}, usual, 23)
	refuses(t, "a value", []api.KV{put("a", 1, text(1001))}, usual, 31)
	refuses(t, "an order", []api.KV{put("a", 1, ""), put("a", 1, "")}, usual, 110)
	closed(t, "no bytes", nil, 121)
	b := builds(t, one, usual)
	b[len(b)-29] ^= 1
	closed(t, "the index' sum", b, 122)
	fails(t, nil, "a", 1, 1)
}

// The chapter's examples.
func TestExamples(t *testing.T) {
	b := builds(t, []api.KV{put("a", 1, "x")}, api.Options{Block: 1, Interval: 1, Bits: 10})
	blockText := "\x00\x09\x01a\x01\x01\x00\x00\x00\x00\x00\x00x" + "\x00\x00\x00\x00" + "\x01" + "\x01\x00\x00\x00"
	indexText := "\x00\x09\x02a\x01\x01\x00\x00\x00\x00\x00\x00\x00\x16" + "\x00\x00\x00\x00" + "\x01" + "\x01\x00\x00\x00"
	if len(b) != 94 || string(b[:22]) != blockText || string(b[39:62]) != indexText {
		t.Errorf("% x", b)
	}
	if foot := "\x1a\x00\x00\x00\x09\x00\x00\x00\x27\x00\x00\x00\x17\x00\x00\x00\x01\x00\x00\x00staddle1"; string(b[66:]) != foot {
		t.Errorf("% x", b[66:])
	}
	x := opens(t, b)
	if n := x.Blocks(); n != 1 {
		t.Errorf("Blocks is %d", n)
	}
	gets(t, x, "a", 1, "x", api.There)
	gets(t, x, "a", 0, "", api.None)
	gets(t, x, "b", 9, "", api.None)
	b[0] ^= 1
	x = opens(t, b)
	fails(t, x, "a", 1, api.ErrTableSum)
	broken(t, "byte 0 turned", x, api.ErrTableSum)
}

// R1: a table that is nil, and one that no Open gave.
func TestNilAndEmptyTables(t *testing.T) {
	var none *sstable.Table
	for _, user := range []string{"", "a", text(65), text(5000)} {
		for _, seq := range []uint64{0, 1, topSeq, topSeq + 1, math.MaxUint64} {
			fails(t, none, user, seq, api.ErrArg)
			gets(t, &sstable.Table{}, user, seq, "", api.None)
			gets(t, new(sstable.Table), user, seq, "", api.None)
		}
	}
	broken(t, "nil", none, api.ErrArg)
	holds(t, &sstable.Table{}, nil)
	if a, b := none.Blocks(), new(sstable.Table).Blocks(); a != 0 || b != 0 {
		t.Errorf("Blocks: %d, %d", a, b)
	}
}
