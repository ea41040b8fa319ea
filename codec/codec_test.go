package codec_test

import (
	"bytes"
	"encoding/binary"
	"math"
	"strings"
	"testing"

	"staddle/api"
	"staddle/codec"
)

// numbers are those at which a byte more or a bit more begins, and both ends.
func numbers() []uint64 {
	l := []uint64{0, 1, 2, 300, 0x0102030405060708, math.MaxUint64 - 1, math.MaxUint64}
	for bit := range 64 {
		l = append(l, 1<<bit-1, 1<<bit, 1<<bit+1)
	}
	return l
}

// texts have lengths around those at which their numbers have a byte more, and bytes of all kinds.
func texts() []string {
	l := []string{"", "a", "ab", "\x00", "\xff\x80", "käse"}
	for _, n := range []int{127, 128, 129, 16383, 16384, 20000} {
		l = append(l, strings.Repeat("\x80q\x00", n)[:n])
	}
	return l
}

// around are bytes that may stand ahead of what is laid, or behind it.
func around() [][]byte {
	return [][]byte{nil, {}, {0}, {0x80}, {1, 2, 3}, bytes.Repeat([]byte{0xFF}, 20)}
}

func join(parts ...[]byte) []byte { return bytes.Join(parts, nil) }

// The section "Errors": the numbers are api's.
func TestErrorNumbers(t *testing.T) {
	if api.OK != 0 || api.ErrArg != 1 || api.ErrCodecShort != 10 || api.ErrCodecLong != 11 {
		t.Error("an error has another number than the document's")
	}
}

// P1.1
func TestPutUvarint(t *testing.T) {
	for _, c := range []struct {
		n    uint64
		want []byte
	}{
		{0, []byte{0}},
		{1, []byte{1}},
		{127, []byte{0x7F}},
		{128, []byte{0x80, 1}},
		{300, []byte{0xAC, 2}},
		{16383, []byte{0xFF, 0x7F}},
		{16384, []byte{0x80, 0x80, 1}},
		{1<<63 - 1, []byte{0xFF, 0xFF, 0xFF, 0xFF, 0xFF, 0xFF, 0xFF, 0xFF, 0x7F}},
		{1 << 63, []byte{0x80, 0x80, 0x80, 0x80, 0x80, 0x80, 0x80, 0x80, 0x80, 1}},
		{math.MaxUint64, []byte{0xFF, 0xFF, 0xFF, 0xFF, 0xFF, 0xFF, 0xFF, 0xFF, 0xFF, 1}},
	} {
		if b := codec.PutUvarint(nil, c.n); !bytes.Equal(b, c.want) {
			t.Errorf("%d: % x", c.n, b)
		}
	}
	for _, n := range numbers() {
		for _, ahead := range around() {
			want := binary.AppendUvarint(bytes.Clone(ahead), n)
			if b := codec.PutUvarint(ahead, n); !bytes.Equal(b, want) {
				t.Errorf("%d behind % x: % x", n, ahead, b)
			}
		}
	}
}

// P1.1
func TestUvarint(t *testing.T) {
	ff := func(n int) []byte { return bytes.Repeat([]byte{0xFF}, n) }
	noughts := func(n int) []byte { return bytes.Repeat([]byte{0x80}, n) }
	for _, c := range []struct {
		b   []byte
		n   uint64
		k   int
		err api.Errno
	}{
		{[]byte{0}, 0, 1, api.OK},
		{[]byte{0x7F}, 127, 1, api.OK},
		{[]byte{0xAC, 2}, 300, 2, api.OK},
		{[]byte{0xAC, 2, 0xFF}, 300, 2, api.OK},
		// as many as there may be, and a tenth byte of 0 and of 1
		{join(ff(8), []byte{0x7F}), 1<<63 - 1, 9, api.OK},
		{join(ff(9), []byte{0}), 1<<63 - 1, 10, api.OK},
		{join(ff(9), []byte{1}), math.MaxUint64, 10, api.OK},
		{join(noughts(9), []byte{1}), 1 << 63, 10, api.OK},
		{join(ff(9), []byte{1, 0xFF}), math.MaxUint64, 10, api.OK},
		// more bytes than are needed
		{[]byte{0x80, 0}, 0, 2, api.OK},
		{[]byte{0x85, 0x80, 0}, 5, 3, api.OK},
		{join(noughts(9), []byte{0}), 0, 10, api.OK},
		{join([]byte{0xAC, 0x82}, noughts(7), []byte{0}), 300, 10, api.OK},
		// too short
		{nil, 0, 0, api.ErrCodecShort},
		{[]byte{}, 0, 0, api.ErrCodecShort},
		{[]byte{0x80}, 0, 0, api.ErrCodecShort},
		{ff(8), 0, 0, api.ErrCodecShort},
		{ff(9), 0, 0, api.ErrCodecShort},
		{noughts(9), 0, 0, api.ErrCodecShort},
		// too long, as soon as the tenth byte is there, whatever is behind
		{join(ff(9), []byte{2}), 0, 0, api.ErrCodecLong},
		{join(noughts(9), []byte{2}), 0, 0, api.ErrCodecLong},
		{join(ff(9), []byte{3}), 0, 0, api.ErrCodecLong},
		{join(ff(9), []byte{0x7F}), 0, 0, api.ErrCodecLong},
		{join(ff(9), []byte{0x80}), 0, 0, api.ErrCodecLong},
		{join(ff(9), []byte{0x81}), 0, 0, api.ErrCodecLong},
		{noughts(10), 0, 0, api.ErrCodecLong},
		{ff(10), 0, 0, api.ErrCodecLong},
		{join(noughts(10), []byte{0}), 0, 0, api.ErrCodecLong},
		{ff(1000), 0, 0, api.ErrCodecLong},
	} {
		if n, k, err := codec.Uvarint(c.b); n != c.n || k != c.k || err != c.err {
			t.Errorf("% x: %d, %d, %d", c.b, n, k, int(err))
		}
	}
}

// P1.2
func TestPutFixed(t *testing.T) {
	const n = 0x0102030405060708
	whole := []byte{8, 7, 6, 5, 4, 3, 2, 1}
	for size := 1; size <= 8; size++ {
		for _, ahead := range around() {
			if b := codec.PutFixed(ahead, n, size); !bytes.Equal(b, join(ahead, whole[:size])) {
				t.Errorf("size %d behind % x: % x", size, ahead, b)
			}
		}
		if b := codec.PutFixed(nil, 0, size); !bytes.Equal(b, make([]byte, size)) {
			t.Errorf("0, size %d: % x", size, b)
		}
		if b := codec.PutFixed(nil, math.MaxUint64, size); !bytes.Equal(b, bytes.Repeat([]byte{0xFF}, size)) {
			t.Errorf("the greatest, size %d: % x", size, b)
		}
	}
	for _, size := range wrongSizes() {
		for _, ahead := range around() {
			if b := codec.PutFixed(ahead, n, size); !bytes.Equal(b, ahead) {
				t.Errorf("size %d behind % x: % x", size, ahead, b)
			}
		}
	}
}

func wrongSizes() []int {
	return []int{0, -1, 9, 10, -8, 64, 256 + 4, 1<<32 + 4, math.MinInt, math.MaxInt}
}

// P1.2
func TestFixed(t *testing.T) {
	whole := []byte{0xF8, 7, 6, 5, 4, 3, 2, 0xF1}
	want := uint64(0)
	for size := 1; size <= 8; size++ {
		want |= uint64(whole[size-1]) << (8 * (size - 1))
		for _, b := range [][]byte{whole, whole[:size], join(whole, []byte{0xFF, 0xFF})} {
			if n, err := codec.Fixed(b, size); n != want || err != api.OK {
				t.Errorf("% x, size %d: %x, %d", b, size, n, int(err))
			}
		}
		for short := range size {
			// The bytes behind the list's end are there, but are not the list's.
			if n, err := codec.Fixed(whole[:short], size); n != 0 || err != api.ErrCodecShort {
				t.Errorf("% x, size %d: %x, %d", whole[:short], size, n, int(err))
			}
		}
		if n, err := codec.Fixed(nil, size); n != 0 || err != api.ErrCodecShort {
			t.Errorf("nil, size %d: %x, %d", size, n, int(err))
		}
	}
	for _, size := range wrongSizes() {
		for _, b := range [][]byte{nil, {}, {1}, whole, make([]byte, 300)} {
			if n, err := codec.Fixed(b, size); n != 0 || err != api.ErrArg {
				t.Errorf("% x, size %d: %x, %d", b, size, n, int(err))
			}
		}
	}
}

// P1.3
func TestPutText(t *testing.T) {
	if b := codec.PutText([]byte{9}, "ab"); !bytes.Equal(b, []byte{9, 2, 'a', 'b'}) {
		t.Errorf("% x", b)
	}
	if b := codec.PutText(nil, ""); !bytes.Equal(b, []byte{0}) {
		t.Errorf("% x", b)
	}
	for _, s := range texts() {
		for _, ahead := range around() {
			want := join(binary.AppendUvarint(bytes.Clone(ahead), uint64(len(s))), []byte(s))
			if b := codec.PutText(ahead, s); !bytes.Equal(b, want) {
				t.Errorf("a text of %d bytes behind % x", len(s), ahead)
			}
		}
	}
}

// P1.3
func TestText(t *testing.T) {
	length := func(n uint64, behind string) []byte {
		return append(binary.AppendUvarint(nil, n), behind...)
	}
	for _, c := range []struct {
		b   []byte
		s   string
		k   int
		err api.Errno
	}{
		{[]byte{2, 'a', 'b', 'c'}, "ab", 3, api.OK},
		{[]byte{2, 'a', 'b'}, "ab", 3, api.OK},
		{[]byte{0}, "", 1, api.OK},
		{[]byte{0, 'a'}, "", 1, api.OK},
		{[]byte{0x80, 0}, "", 2, api.OK},
		{[]byte{0x82, 0x80, 0, 'a', 'b', 'c'}, "ab", 5, api.OK},
		{[]byte{2, 0xFF, 0x80}, "\xff\x80", 3, api.OK},
		// the number's errors
		{nil, "", 0, api.ErrCodecShort},
		{[]byte{}, "", 0, api.ErrCodecShort},
		{[]byte{0x82}, "", 0, api.ErrCodecShort},
		{append(bytes.Repeat([]byte{0xFF}, 9), 2), "", 0, api.ErrCodecLong},
		{append(bytes.Repeat([]byte{0x80}, 9), 2, 'a', 'b'), "", 0, api.ErrCodecLong},
		// a length that says more than is behind
		{[]byte{1}, "", 0, api.ErrCodecShort},
		{[]byte{3, 'a', 'b'}, "", 0, api.ErrCodecShort},
		{[]byte{3, 'a', 'b', 'c', 'd'}[:3], "", 0, api.ErrCodecShort},
		{length(1<<31, "ab"), "", 0, api.ErrCodecShort},
		{length(1<<32+1, "ab"), "", 0, api.ErrCodecShort},
		{length(math.MaxInt64, "ab"), "", 0, api.ErrCodecShort},
		{length(1<<63, "ab"), "", 0, api.ErrCodecShort},
		{length(1<<63+1, "ab"), "", 0, api.ErrCodecShort},
		{length(math.MaxUint64, "ab"), "", 0, api.ErrCodecShort},
	} {
		if s, k, err := codec.Text(c.b); s != c.s || k != c.k || err != c.err {
			t.Errorf("% x: %q, %d, %d", c.b, s, k, int(err))
		}
	}
}

// P1.5: what is laid is read, whatever is ahead of it or behind.
func TestLaidIsRead(t *testing.T) {
	for _, ahead := range around() {
		for _, behind := range around() {
			for _, n := range numbers() {
				laid := codec.PutUvarint(ahead, n)
				got, k, err := codec.Uvarint(join(laid, behind)[len(ahead):])
				if got != n || k != len(laid)-len(ahead) || err != api.OK {
					t.Fatalf("%d: %d, %d, %d", n, got, k, int(err))
				}
				for size := 1; size <= 8; size++ {
					laid := codec.PutFixed(ahead, n, size)
					got, err := codec.Fixed(join(laid, behind)[len(ahead):], size)
					if got != n<<(64-8*size)>>(64-8*size) || err != api.OK {
						t.Fatalf("%x in %d bytes: %x, %d", n, size, got, int(err))
					}
				}
			}
			for _, s := range texts() {
				laid := codec.PutText(ahead, s)
				got, k, err := codec.Text(join(laid, behind)[len(ahead):])
				if got != s || k != len(laid)-len(ahead) || err != api.OK {
					t.Fatalf("a text of %d bytes: %d bytes, %d, %d", len(s), len(got), k, int(err))
				}
			}
		}
	}
}

// P1.5: what stands one behind the other is read in order, by what each reading says that it read.
func TestOneBehindTheOther(t *testing.T) {
	var b []byte
	for i, s := range texts() {
		b = codec.PutFixed(codec.PutText(codec.PutUvarint(b, uint64(i)<<(6*i)), s), uint64(i), 3)
	}
	for i, want := range texts() {
		n, k, err := codec.Uvarint(b)
		if n != uint64(i)<<(6*i) || err != api.OK {
			t.Fatalf("number %d: %d, %d", i, n, int(err))
		}
		s, l, err := codec.Text(b[k:])
		if s != want || err != api.OK {
			t.Fatalf("text %d: %d bytes, %d", i, len(s), int(err))
		}
		b = b[k+l:]
		if n, err := codec.Fixed(b, 3); n != uint64(i) || err != api.OK {
			t.Fatalf("fixed %d: %d, %d", i, n, int(err))
		}
		b = b[3:]
	}
	if len(b) != 0 {
		t.Errorf("% x is left", b)
	}
}
