package codec_test

import (
	"bytes"
	"hash/crc32"
	"math"
	"math/bits"
	"testing"

	"staddle/codec"
)

// P1.4: sums that are known, and those of another hand's.
func TestCrc(t *testing.T) {
	rising := make([]byte, 32)
	for i := range rising {
		rising[i] = byte(i)
	}
	for _, c := range []struct {
		b    []byte
		want uint32
	}{
		{nil, 0},
		{[]byte{}, 0},
		{[]byte("123456789"), 0xE3069283},
		{make([]byte, 32), 0x8A9136AA},
		{bytes.Repeat([]byte{0xFF}, 32), 0x62A8AB43},
		{rising, 0x46DD794E},
	} {
		if n := codec.Crc(c.b); n != c.want {
			t.Errorf("% x: %08x", c.b, n)
		}
	}
	table := crc32.MakeTable(crc32.Castagnoli)
	for c := range 256 {
		b := []byte{byte(c)}
		if n := codec.Crc(b); n != crc32.Checksum(b, table) {
			t.Errorf("% x: %08x", b, n)
		}
	}
	long := make([]byte, 3000)
	for i := range long {
		long[i] = byte(i * i >> 3)
	}
	for n := range long {
		if got := codec.Crc(long[:n]); got != crc32.Checksum(long[:n], table) {
			t.Fatalf("%d bytes: %08x", n, got)
		}
	}
}

// P1.4
func TestMask(t *testing.T) {
	for _, c := range []struct{ n, want uint32 }{
		{0, 0xA282EAD8},
		{1, 0xA284EAD8},
		{1 << 15, 0xA282EAD9},
		{math.MaxUint32, 0xA282EAD7},
		{0xE3069283, 0xC78AB0E5},
	} {
		if n := codec.Mask(c.n); n != c.want {
			t.Errorf("Mask of %08x: %08x", c.n, n)
		}
		if n := codec.Unmask(c.want); n != c.n {
			t.Errorf("Unmask of %08x: %08x", c.want, n)
		}
	}
	for i := range uint32(1 << 16) {
		n := i * 0x9E3779B1
		if codec.Mask(n) != bits.RotateLeft32(n, -15)+0xA282EAD8 {
			t.Fatalf("Mask of %08x: %08x", n, codec.Mask(n))
		}
		if codec.Unmask(codec.Mask(n)) != n || codec.Mask(codec.Unmask(n)) != n {
			t.Fatalf("%08x does not come back", n)
		}
	}
}

// P1.5: a bit that is turned has another check sum.
func TestTurnedBit(t *testing.T) {
	for _, n := range []int{1, 2, 9, 128, 700} {
		b := make([]byte, n)
		for i := range b {
			b[i] = byte(i*7 + n)
		}
		sum := codec.Crc(b)
		for bit := range 8 * n {
			b[bit/8] ^= 1 << (bit % 8)
			if codec.Crc(b) == sum {
				t.Errorf("%d bytes: bit %d is not seen", n, bit)
			}
			b[bit/8] ^= 1 << (bit % 8)
		}
	}
}
