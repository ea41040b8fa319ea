package sstable_test

import (
	"bytes"
	"encoding/binary"
	"math"
	"slices"
	"testing"

	"staddle/api"
)

// P12.1: blocks' sizes and intervals that may be, and those that may not.
func TestBlockAndInterval(t *testing.T) {
	l := numbered(20)
	wrong := []int{0, -1, -16, -65536, math.MinInt, math.MinInt32, math.MaxInt, math.MaxInt32, 1 << 32, 1<<32 + 1}
	for _, size := range append(wrong, 65537, 65536+4) {
		refuses(t, "a block", l, api.Options{Block: size, Interval: 1, Bits: 10}, api.ErrArg)
		refuses(t, "a block, an interval", l, api.Options{Block: size, Interval: size, Bits: 10}, api.ErrArg)
	}
	for _, interval := range append(wrong, 17, 18, 255, 256, 257) {
		refuses(t, "an interval", l, api.Options{Block: 50, Interval: interval, Bits: 10}, api.ErrArg)
	}
	for _, size := range []int{1, 2, 65535, 65536} {
		for _, interval := range []int{1, 2, 15, 16} {
			both(t, l, api.Options{Block: size, Interval: interval, Bits: 10})
		}
	}
}

// wrongBits are bits that bloom.Build refuses.
var wrongBits = []float64{0, math.Copysign(0, -1), -1, -10, -math.SmallestNonzeroFloat64, math.NaN(), math.Inf(1), math.Inf(-1), 51, math.Nextafter(50, 51), math.MaxFloat64, -math.MaxFloat64}

// P12.1: bits that bloom.Build refuses, and those that it does not.
func TestBits(t *testing.T) {
	l := numbered(20)
	for _, bits := range wrongBits {
		refuses(t, "bits", l, api.Options{Block: 50, Interval: 2, Bits: bits}, api.ErrBloomBits)
	}
	for _, bits := range []float64{math.SmallestNonzeroFloat64, 0.001, 1, 3.4, 10, 43, 44, 49.999, 50} {
		both(t, l, api.Options{Block: 50, Interval: 2, Bits: bits})
	}
}

// P12.1: no entries.
func TestNoEntries(t *testing.T) {
	for _, l := range [][]api.KV{nil, {}, make([]api.KV, 0, 5), numbered(3)[:0]} {
		refuses(t, "none", l, usual, api.ErrTableEmpty)
		refuses(t, "none, a block", l, api.Options{Block: 0, Interval: 1, Bits: 10}, api.ErrArg)
		refuses(t, "none, bits", l, api.Options{Block: 1, Interval: 1}, api.ErrBloomBits)
	}
}

// refused are entries that block.Build refuses, each by that error.
func refused() map[api.Errno]api.KV {
	return map[api.Errno]api.KV{
		api.ErrKeyLong:    put("x"+text(64), 1, ""),
		api.ErrKeySeq:     put("x", topSeq+1, ""),
		api.ErrKeyKind:    {Key: api.IKey{User: "x", Seq: 1, Kind: 2}},
		api.ErrBatchValue: put("x", 1, text(1001)),
		api.ErrBlockOrder: put("a", 1, ""),
	}
}

// P12.1: entries that block.Build refuses, at each place but the first (where none is ahead), however they fall into blocks.
func TestRefusedEntries(t *testing.T) {
	for want, e := range refused() {
		for _, size := range []int{1, 60, 65536} {
			o := api.Options{Block: size, Interval: 2, Bits: 10}
			for i := 1; i <= 9; i++ {
				refuses(t, "one", slices.Insert(numbered(9), i, e), o, want)
				for _, second := range refused() {
					refuses(t, "two", append(slices.Insert(numbered(9), i, e), second), o, want)
					refuses(t, "bits ahead", []api.KV{second, e}, api.Options{Block: size, Interval: 2, Bits: math.NaN()}, api.ErrBloomBits)
					refuses(t, "an interval ahead", []api.KV{second, e}, api.Options{Block: size, Interval: 17, Bits: math.NaN()}, api.ErrArg)
				}
			}
			if want != api.ErrBlockOrder {
				refuses(t, "the first", append([]api.KV{e}, numbered(3)...), o, want)
				refuses(t, "alone", []api.KV{e}, o, want)
			}
		}
	}
}

// P12.1, R2: of several errors of one entry the one that block.Build has.
func TestWhichErrorOfAnEntry(t *testing.T) {
	worst := api.KV{Key: api.IKey{User: "a" + text(64), Seq: topSeq + 1, Kind: -1}, Value: text(1001)}
	mend := []func(*api.KV){
		func(e *api.KV) { e.Key.User = "a" },
		func(e *api.KV) { e.Key.Seq = 1 },
		func(e *api.KV) { e.Key.Kind = api.Put },
		func(e *api.KV) { e.Value = "" },
	}
	wants := []api.Errno{api.ErrKeyLong, api.ErrKeySeq, api.ErrKeyKind, api.ErrBatchValue, api.ErrBlockOrder}
	for i, want := range wants {
		refuses(t, "behind another", append(numbered(4), worst), usual, want)
		if i < len(mend) {
			mend[i](&worst)
		}
	}
}

// P12.1: entries that do not rise, at each place: within a block, and from one to the next.
func TestEntriesThatDoNotRise(t *testing.T) {
	for _, size := range []int{1, 40, 60, 100, 65536} {
		o := api.Options{Block: size, Interval: 2, Bits: 10}
		for i := range 11 {
			l := numbered(12)
			l[i], l[i+1] = l[i+1], l[i]
			refuses(t, "exchanged", l, o, api.ErrBlockOrder)
			l = numbered(12)
			l[i+1] = l[i]
			refuses(t, "the same", l, o, api.ErrBlockOrder)
			l[i+1].Value = "another value"
			refuses(t, "the same key", l, o, api.ErrBlockOrder)
		}
	}
}

// P12.1: a block ends as soon as it has o.Block bytes: just at them, and not one byte below.
func TestWhereABlockEnds(t *testing.T) {
	for _, interval := range []int{1, 2, 3, 16} {
		l := numbered(40)
		for n := 1; n < len(l); n++ {
			size := len(blockOf(l[:n], interval))
			for d, want := range map[int]int{0: n, 1: n + 1} {
				o := api.Options{Block: size + d, Interval: interval, Bits: 10}
				both(t, l, o)
				if lists := parted(l, o); len(lists[0]) != want {
					t.Fatalf("%d entries of %d bytes at %d: %d", n, size, o.Block, len(lists[0]))
				}
				if b := builds(t, l, o); !bytes.HasPrefix(b, blockOf(l[:want], interval)) {
					t.Errorf("%d bytes: the first block has not %d entries", o.Block, want)
				}
			}
			// With no entry behind it a block ends however few bytes it has.
			for d, want := range map[int]int{-1: 1, 0: 1, 1: 1} {
				o := api.Options{Block: size + d, Interval: interval, Bits: 10}
				if k := opens(t, builds(t, l[:n], o)).Blocks(); k != want {
					t.Errorf("%d entries of %d bytes at %d: %d blocks", n, size, o.Block, k)
				}
			}
		}
	}
}

// P12.1: each size that a block is to have, from one entry a block to all in one.
func TestEachSize(t *testing.T) {
	l := numbered(30)
	for _, interval := range []int{1, 3, 16} {
		for size := 1; size < 700; size++ {
			both(t, l, api.Options{Block: size, Interval: interval, Bits: 10})
		}
		for size, want := range map[int]int{1: 30, 20: 30, 65536: 1} {
			if n := opens(t, builds(t, l, api.Options{Block: size, Interval: interval, Bits: 10})).Blocks(); n != want {
				t.Errorf("size %d: %d blocks, not %d", size, n, want)
			}
		}
	}
}

// P12.1: how many entries there are, each with the greatest and the least of things.
func TestHowManyEntries(t *testing.T) {
	for n := 1; n < 80; n++ {
		both(t, numbered(n), usual)
		both(t, numbered(n), api.Options{Block: 1, Interval: 1, Bits: 50})
		both(t, numbered(n), api.Options{Block: 65536, Interval: 16, Bits: 0.5})
	}
	great := []api.KV{put("", topSeq, text(1000)), put("", 0, ""), del("", 0), put("\x00", 1, "\x00"), put(text(64), topSeq, text(1000)), del(text(64), topSeq), del(text(64), 0), put("\xff", 0, "\xff\xfe")}
	for _, size := range []int{1, 30, 1000, 1100, 65536} {
		both(t, great, api.Options{Block: size, Interval: 1, Bits: 10})
		both(t, great, api.Options{Block: size, Interval: 16, Bits: 10})
	}
}

// P12.1: a user that comes twice is in the filter twice: it is as long as if there were two.
func TestUsersThatComeTwice(t *testing.T) {
	var l []api.KV
	for seq := uint64(20); seq > 0; seq-- {
		l = append(l, put("a", seq, ""))
	}
	b := builds(t, l, api.Options{Block: 65536, Interval: 1, Bits: 10})
	foot := b[len(b)-28:]
	if n := binary.LittleEndian.Uint32(foot[4:]); n != 26 {
		t.Errorf("the filter has %d bytes, not 26", n)
	}
	if n := binary.LittleEndian.Uint32(foot[16:]); n != 20 {
		t.Errorf("%d entries are told, not 20", n)
	}
	both(t, l, usual)
	for seq := range uint64(25) {
		value, what := known(l, "a", seq)
		gets(t, opens(t, b), "a", seq, value, what)
	}
}

// P12.1: a filter and an index of the least size.
func TestLeastSizes(t *testing.T) {
	for _, bits := range []float64{math.SmallestNonzeroFloat64, 1, 10, 50} {
		b := builds(t, []api.KV{put("", 0, "")}, api.Options{Block: 1, Interval: 1, Bits: bits})
		if foot := "\x18\x00\x00\x00\x09\x00\x00\x00\x25\x00\x00\x00\x16\x00\x00\x00\x01\x00\x00\x00staddle1"; string(b[63:]) != foot {
			t.Errorf("% x", b[63:])
		}
		gets(t, opens(t, b), "", 0, "", api.There)
	}
}

// P12.1: many entries: a block of the greatest size, places of several bytes, and a table that is made soon.
func TestManyEntries(t *testing.T) {
	l := numbered(20000)
	for _, o := range []api.Options{{Block: 65536, Interval: 16, Bits: 10}, {Block: 65536, Interval: 1, Bits: 1}, {Block: 4096, Interval: 4, Bits: 10}, {Block: 1, Interval: 1, Bits: 10}} {
		b := builds(t, l, o)
		x := opens(t, b)
		holds(t, x, l)
		for i := 0; i < len(l); i += 997 {
			value, what := known(l[i:], l[i].Key.User, l[i].Key.Seq)
			gets(t, x, l[i].Key.User, l[i].Key.Seq, value, what)
		}
	}
	few := api.Options{Block: 65536, Interval: 16, Bits: 10}
	half := numbered(4800)
	both(t, half[:100], few)
	// Asked of the bytes alone: to try each entry more would take long.
	b := builds(t, half, few)
	n := 0
	for size := 0; size < 65536; n += 16 {
		size = len(blockOf(half[:n+16], 16))
	}
	for len(blockOf(half[:n-1], 16)) >= 65536 {
		n--
	}
	if !bytes.HasPrefix(b, blockOf(half[:n], 16)) {
		t.Errorf("the first block has not %d entries", n)
	}
}
