package bloom_test

import (
	"slices"
	"testing"

	"staddle/bloom"
)

// P10.3: a filter of no bytes, and of one, whatever it is, can't tell.
func TestFiltersTooShort(t *testing.T) {
	for _, key := range []string{"", "a", rising(100, 7)} {
		mays(t, nil, key, true)
		mays(t, []byte{}, key, true)
		for c := range 256 {
			mays(t, []byte{byte(c)}, key, true)
		}
	}
}

// P10.3: a filter of two bytes has eight bits: each of them set, and not, alone.
func TestFilterOfTwoBytes(t *testing.T) {
	for _, key := range []string{"", "a", "bc", "def", "\xff\xfe"} {
		at := hashPlainly(key) % 8
		for c := range 256 {
			mays(t, []byte{byte(c), 1}, key, c>>at%2 == 1)
			mays(t, []byte{byte(c), 3}, key, mayPlainly([]byte{byte(c), 3}, key))
		}
		mays(t, []byte{0xff, 30}, key, true)
		mays(t, []byte{0, 30}, key, false)
	}
}

// P10.3: every last byte: 0 and those above 30 are told true of all, the others are probes.
func TestEveryLastByte(t *testing.T) {
	for c := range 256 {
		none, all := make([]byte, 20), slices.Repeat([]byte{0xff}, 20)
		none[19], all[19] = byte(c), byte(c)
		for _, key := range []string{"", "a", "bc"} {
			mays(t, none, key, c == 0 || c > 30)
			mays(t, all, key, true)
		}
		mays(t, []byte{0, byte(c)}, "a", c == 0 || c > 30)
	}
	mays(t, []byte{0, 0, 0}, "a", true)
	mays(t, []byte{0, 0, 1}, "a", false)
	mays(t, []byte{0, 0, 30}, "a", false)
	mays(t, []byte{0, 0, 31}, "a", true)
}

// P10.3: just as many probes are looked at as the last byte says: with the bits of so many set, each further one may be missing.
func TestJustSoManyProbes(t *testing.T) {
	const size = 125
	for _, key := range []string{"a", "bc", "def", "ghij", "klmno"} {
		places := placesPlainly(key, 31, size*8)
		filter := make([]byte, size+1)
		for n := 1; n <= 30; n++ {
			filter[size] = byte(n)
			place := places[n-1]
			mays(t, filter, key, filter[place/8]>>(place%8)%2 == 1)
			filter[place/8] |= 1 << (place % 8)
			mays(t, filter, key, true)
			filter[size] = byte(n + 1)
			mays(t, filter, key, n+1 > 30 || filter[places[n]/8]>>(places[n]%8)%2 == 1)
		}
	}
}

// P10.3: each bit of a key, and none but these, matters, the first as the last.
func TestEachBitMatters(t *testing.T) {
	for _, key := range []string{"", "a", "bc", "\x80\x81\x82\x83\x84", rising(64, 9)} {
		for _, size := range []int{1, 2, 3, 7, 8, 9, 13, 64} {
			for _, probes := range []int{1, 2, 6, 29, 30} {
				places := placesPlainly(key, probes, uint64(size)*8)
				for bit := range size * 8 {
					filter := append(slices.Repeat([]byte{0xff}, size), byte(probes))
					filter[bit/8] &^= 1 << (bit % 8)
					mays(t, filter, key, !slices.Contains(places, uint64(bit)))
				}
			}
		}
	}
}

// P10.3: filters that Build did not make: of no multiple of 64 bits, with more bits or fewer than Build gives, with other probes.
func TestFiltersOfOthers(t *testing.T) {
	filter := builds(t, []string{"a", "bc"}, 10)
	for last := range 256 {
		other := slices.Clone(filter)
		other[len(other)-1] = byte(last)
		for _, key := range []string{"a", "bc", "def", ""} {
			mays(t, other, key, mayPlainly(other, key))
		}
	}
	for n := range len(filter) {
		for _, key := range []string{"a", "bc", "def", ""} {
			mays(t, filter[:n], key, mayPlainly(filter[:n], key))
			longer := append(make([]byte, n), filter...)
			mays(t, longer, key, mayPlainly(longer, key))
		}
	}
}

// P10.3: a filter of 2^32 bits and of more: the remainder is by all of them.
func TestLongFilters(t *testing.T) {
	for _, size := range []int{1 << 29, 1<<29 + 1, 1<<29 + 100} {
		filter := make([]byte, size+1)
		filter[size] = 2
		for _, key := range []string{"", "a", "\xff"} {
			places := placesPlainly(key, 2, uint64(size)*8)
			mays(t, filter, key, false)
			filter[places[0]/8] |= 1 << (places[0] % 8)
			mays(t, filter, key, false)
			filter[places[1]/8] |= 1 << (places[1] % 8)
			mays(t, filter, key, true)
			filter[places[0]/8], filter[places[1]/8] = 0, 0
		}
	}
}

// P10.3: keys that are not there are mostly told so: a filter that tells true of all would be none.
func TestMostOthersAreTold(t *testing.T) {
	keys := numbered(3000)
	filter := builds(t, keys[:1000], 10)
	told := 0
	for _, key := range keys[1000:] {
		if !bloom.May(filter, key) {
			told++
		}
	}
	if told < 1900 {
		t.Errorf("%d of 2000", told)
	}
}
