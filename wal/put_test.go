package wal_test

import (
	"bytes"
	"math"
	"slices"
	"testing"

	"staddle/api"
	"staddle/wal"
)

// laid is what the document says that Put lays, by other means than the package's: block by block, each one's room counted down.
func laid(at int, record []byte) []byte {
	var out []byte
	room := 128 - at%128
	var parts [][]byte
	pad := 0
	if room < 7 {
		pad, room = room, 128
	}
	for {
		n := min(room-7, len(record))
		parts = append(parts, record[:n])
		record = record[n:]
		if len(record) == 0 {
			break
		}
		room = 128
	}
	out = append(out, make([]byte, pad)...)
	for i, p := range parts {
		kind := byte(3)
		switch {
		case len(parts) == 1:
			kind = 1
		case i == 0:
			kind = 2
		case i == len(parts)-1:
			kind = 4
		}
		out = append(out, onePiece(kind, p)...)
	}
	return out
}

// putsAs tells a fault if a record is laid otherwise than the document says.
func putsAs(t *testing.T, at int, record, want []byte) {
	t.Helper()
	if got, err := wal.Put(at, record); !bytes.Equal(got, want) || err != api.OK {
		t.Errorf("Put(%d, %d bytes): %d, %s, not %s", at, len(record), err, short(got), short(want))
	}
}

// P9.1: ErrArg, ErrWalLong, and ErrArg where both would do; R2: nothing beside them.
func TestPutRefuses(t *testing.T) {
	long := make([]byte, api.MaxRecord+1)
	longer := make([]byte, 1<<20)
	for _, c := range []struct {
		at     int
		record []byte
		want   api.Errno
	}{
		{-1, nil, api.ErrArg},
		{-1, []byte("ab"), api.ErrArg},
		{-7, []byte("ab"), api.ErrArg},
		{-128, []byte("ab"), api.ErrArg},
		{math.MinInt, []byte("ab"), api.ErrArg},
		{math.MinInt32, nil, api.ErrArg},
		{-1, long, api.ErrArg},
		{math.MinInt, longer, api.ErrArg},
		{0, long, api.ErrWalLong},
		{1, long, api.ErrWalLong},
		{127, long, api.ErrWalLong},
		{128, long, api.ErrWalLong},
		{math.MaxInt, long, api.ErrWalLong},
		{0, longer, api.ErrWalLong},
	} {
		if b, err := wal.Put(c.at, c.record); err != c.want || len(b) != 0 {
			t.Errorf("Put(%d, %d bytes): %d, %s, not %d", c.at, len(c.record), err, short(b), c.want)
		}
	}
}

// P9.1: just MaxRecord bytes are allowed, at every rest of a block, and one less.
func TestPutGreatest(t *testing.T) {
	for _, n := range []int{api.MaxRecord, api.MaxRecord - 1} {
		record := filled(n, 1)
		for _, at := range []int{0, 1, 60, 119, 120, 121, 122, 123, 127, 128, 249, 250, api.MaxRecord, math.MaxInt} {
			putsAs(t, at, record, laid(at, record))
		}
	}
}

// P9.1: every rest of a block, and all lengths up to some blocks.
func TestPutEverywhere(t *testing.T) {
	for n := range 400 {
		record := filled(n, n)
		for at := range 128 {
			putsAs(t, at, record, laid(at, record))
		}
	}
	for at := 128; at < 700; at++ {
		for _, n := range []int{0, 1, 2, 113, 114, 115, 120, 121, 122, 123, 241, 242, 243, 244, 363} {
			putsAs(t, at, filled(n, at), laid(at, filled(n, at)))
		}
	}
}

// P9.1: only the place in the block matters, at the greatest numbers too.
func TestPutFarOff(t *testing.T) {
	for _, n := range []int{0, 1, 121, 122, 500} {
		record := filled(n, 3)
		for rest := range 128 {
			want := laid(rest, record)
			for _, blocks := range []int{1, 2, 1 << 24, 1<<24 - 1, math.MaxInt / 128} {
				putsAs(t, blocks*128+rest, record, want)
			}
		}
	}
	putsAs(t, math.MaxInt, []byte("ab"), join([]byte{0}, text(1, "ab")))
}

// P9.1: the pieces, one by one: which kinds, how many bytes, and noughts ahead.
func TestPutPieces(t *testing.T) {
	type part struct {
		noughts int
		kind    byte
		n       int
	}
	for _, c := range []struct {
		at, n int
		want  []part
	}{
		{0, 0, []part{{0, 1, 0}}},
		{0, 1, []part{{0, 1, 1}}},
		{0, 120, []part{{0, 1, 120}}},
		{0, 121, []part{{0, 1, 121}}},
		{0, 122, []part{{0, 2, 121}, {0, 4, 1}}},
		{0, 241, []part{{0, 2, 121}, {0, 4, 120}}},
		{0, 242, []part{{0, 2, 121}, {0, 4, 121}}},
		{0, 243, []part{{0, 2, 121}, {0, 3, 121}, {0, 4, 1}}},
		{0, 363, []part{{0, 2, 121}, {0, 3, 121}, {0, 4, 121}}},
		{0, 364, []part{{0, 2, 121}, {0, 3, 121}, {0, 3, 121}, {0, 4, 1}}},
		{1, 120, []part{{0, 1, 120}}},
		{1, 121, []part{{0, 2, 120}, {0, 4, 1}}},
		{119, 2, []part{{0, 1, 2}}},
		{119, 3, []part{{0, 2, 2}, {0, 4, 1}}},
		{120, 0, []part{{0, 1, 0}}},
		{120, 1, []part{{0, 1, 1}}},
		{120, 2, []part{{0, 2, 1}, {0, 4, 1}}},
		{121, 0, []part{{0, 1, 0}}},
		{121, 1, []part{{0, 2, 0}, {0, 4, 1}}},
		{121, 2, []part{{0, 2, 0}, {0, 4, 2}}},
		{121, 121, []part{{0, 2, 0}, {0, 4, 121}}},
		{121, 122, []part{{0, 2, 0}, {0, 3, 121}, {0, 4, 1}}},
		{122, 0, []part{{6, 1, 0}}},
		{122, 121, []part{{6, 1, 121}}},
		{122, 122, []part{{6, 2, 121}, {0, 4, 1}}},
		{123, 1, []part{{5, 1, 1}}},
		{127, 0, []part{{1, 1, 0}}},
		{127, 122, []part{{1, 2, 121}, {0, 4, 1}}},
		{128, 121, []part{{0, 1, 121}}},
		{249, 1, []part{{0, 2, 0}, {0, 4, 1}}},
		{250, 1, []part{{6, 1, 1}}},
	} {
		record := filled(c.n, c.at)
		var want []byte
		rest := record
		for _, p := range c.want {
			want = append(want, make([]byte, p.noughts)...)
			want = append(want, onePiece(p.kind, rest[:p.n])...)
			rest = rest[p.n:]
		}
		putsAs(t, c.at, record, want)
	}
}

// P9.1, R4: a record of no bytes has one piece, whole, at every rest; nil or not.
func TestPutOfNone(t *testing.T) {
	for at := range 300 {
		want := text(1, "")
		if rest := 128 - at%128; rest < 7 {
			want = join(make([]byte, rest), want)
		}
		putsAs(t, at, nil, want)
		putsAs(t, at, []byte{}, want)
		putsAs(t, at, filled(10, 1)[:0], want)
	}
}

// R7: a record's bytes are any bytes.
func TestPutOfAnyBytes(t *testing.T) {
	var all []byte
	for c := range 256 {
		all = append(all, byte(c))
	}
	for _, record := range [][]byte{all, make([]byte, 300), slices.Repeat([]byte{0xff}, 300), laid(0, all), []byte("käse\n\x00")} {
		for at := range 128 {
			putsAs(t, at, record, laid(at, record))
		}
	}
}
