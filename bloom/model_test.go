package bloom_test

import (
	"bytes"
	"math"
	"math/rand"
	"testing"

	"staddle/bloom"
)

// keyByChance is a key of mostly few bytes, of any bytes or of few kinds.
func keyByChance(r *rand.Rand) string {
	b := make([]byte, r.Intn(1+r.Intn(40)))
	for i := range b {
		b[i] = byte(r.Intn(256))
		if r.Intn(3) == 0 {
			b[i] = []byte{0, 1, 'a', 0x7f, 0x80, 0xff}[r.Intn(6)]
		}
	}
	return string(b)
}

// bitsByChance are bits that may be, whole ones and edges of probes among them.
func bitsByChance(r *rand.Rand) float64 {
	switch r.Intn(4) {
	case 0:
		return float64(1 + r.Intn(50))
	case 1:
		return math.Nextafter(leastBits()[r.Intn(34)], float64(r.Intn(2)*50))
	case 2:
		return math.Exp(-r.Float64() * 20)
	}
	return 50 * (1 - r.Float64())
}

// P10.1 to P10.4: keys and bits by chance, held against the document by other means.
func TestByChance(t *testing.T) {
	r := rand.New(rand.NewSource(10))
	for range 4000 {
		keys := make([]string, r.Intn(1+r.Intn(60)))
		for i := range keys {
			keys[i] = keyByChance(r)
			hashesPlainly(t, keys[i])
		}
		bits := bitsByChance(r)
		filter := builds(t, keys, bits)
		if want := buildPlainly(keys, bits); !bytes.Equal(filter, want) {
			t.Fatalf("Build(%q, %v): % x, not % x", keys, bits, filter, want)
		}
		for _, key := range keys {
			mays(t, filter, key, true)
		}
		for range 20 {
			key := keyByChance(r)
			mays(t, filter, key, mayPlainly(filter, key))
		}
	}
}

// P10.3, R1: filters by chance, hand-made, with any last byte.
func TestFiltersByChance(t *testing.T) {
	r := rand.New(rand.NewSource(11))
	told := map[bool]int{}
	for range 60000 {
		filter := make([]byte, r.Intn(24))
		for i := range filter {
			filter[i] = byte(r.Intn(256)) | byte(r.Intn(256))
			if r.Intn(2) == 0 {
				filter[i] = 0xff
			}
		}
		if n := len(filter); n > 0 && r.Intn(4) > 0 {
			filter[n-1] = byte(r.Intn(33))
		}
		key := keyByChance(r)
		want := mayPlainly(filter, key)
		mays(t, filter, key, want)
		told[want]++
	}
	if told[true] < 1000 || told[false] < 1000 {
		t.Errorf("too few of one kind: %v", told)
	}
}

// P10.4: each key of a filter may be there, at all bits, whatever stands beside it.
func TestEachKeyMayBeThere(t *testing.T) {
	keys := append(numbered(150), "", "\x00", "\xff\xff\xff", rising(64, 3), rising(65, 3), rising(9999, 3))
	all := leastBits()
	for n := 1; n <= 500; n++ {
		all = append(all, float64(n)/10)
	}
	all = append(all, math.SmallestNonzeroFloat64, 1e-9, 0.001, math.Nextafter(50, 0))
	for _, bits := range all {
		for _, some := range [][]string{keys, keys[:1], keys[:7], keys[145:]} {
			filter := builds(t, some, bits)
			for _, key := range some {
				mays(t, filter, key, true)
			}
		}
	}
}

// P10.4: bits up to 43 have at most 29 probes, and a filter of them can still tell that a key is not there; above 30 probes, true is told of all.
func TestBitsAbove43(t *testing.T) {
	strangers := numbered(2000)
	for _, c := range []struct {
		bits  float64
		tells bool
	}{
		{42, true}, {43, true}, {43.47, true}, {43.48, true}, {44, true}, {44.92, true}, {math.Nextafter(leastBits()[30], 0), true},
		{leastBits()[30], false}, {44.93, false}, {45, false}, {47, false}, {50, false},
	} {
		filter := builds(t, []string{"a", "bc", "def"}, c.bits)
		probes := filter[len(filter)-1]
		if c.bits <= 43 && probes > 29 {
			t.Errorf("bits %v: %d probes", c.bits, probes)
		}
		told := 0
		for _, key := range strangers {
			if !bloom.May(filter, key) {
				told++
			}
		}
		if c.tells != (told > 0) {
			t.Errorf("bits %v: %d keys are told not to be there", c.bits, told)
		}
	}
}
