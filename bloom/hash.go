package bloom

import (
	"iter"
	"math/bits"

	"staddle/codec"
)

const (
	seed     = 0xBC9F1D34
	factor   = 0xC6A4A793
	wordSize = 4  // bytes of a key that are summed at once
	turn     = 17 // bits by which a key's number is turned round to become its step
)

// Hash is a key's number.
func Hash(key string) uint32 {
	h := seed ^ uint32(len(key))*factor
	rest := []byte(key)
	for len(rest) >= wordSize {
		h = mixed(h, rest[:wordSize], 16)
		rest = rest[wordSize:]
	}
	if len(rest) > 0 {
		h = mixed(h, rest, 24)
	}
	return h
}

// mixed is h with one to four bytes of a key, the lowest first, mixed in.
func mixed(h uint32, part []byte, shift int) uint32 {
	n, _ := codec.Fixed(part, len(part))
	h = (h + uint32(n)) * factor
	return h ^ h>>shift
}

// places goes through the places of a key's bits among those of so many bytes.
func places(key string, probes, size int) iter.Seq[uint64] {
	// In 64 bits: those of a long filter are more than a number of 32 bits holds.
	count := 8 * uint64(size)
	return func(yield func(uint64) bool) {
		h := Hash(key)
		step := bits.RotateLeft32(h, -turn)
		for range probes {
			if !yield(uint64(h) % count) {
				return
			}
			h += step
		}
	}
}
