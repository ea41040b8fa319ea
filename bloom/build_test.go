package bloom_test

import (
	"bytes"
	"math"
	"math/bits"
	"slices"
	"testing"

	"staddle/bloom"
)

// P10.2: bits that may not be, with keys and without.
func TestBitsThatMayNotBe(t *testing.T) {
	negativeNaN := math.Copysign(math.NaN(), -1)
	otherNaN := math.Float64frombits(0x7FF0000000000001)
	for _, bits := range []float64{
		math.NaN(), negativeNaN, otherNaN, math.Inf(1), math.Inf(-1), 0, math.Copysign(0, -1),
		-math.SmallestNonzeroFloat64, -1e-300, -0.5, -1, -10, -50, -math.MaxFloat64,
		math.Nextafter(50, 51), 50.5, 51, 64, 1e9, 1 << 31, 1 << 63, math.MaxFloat64,
	} {
		for _, keys := range [][]string{nil, {}, {"a"}, {""}, numbered(100)} {
			refuses(t, keys, bits)
		}
	}
}

// P10.2: bits that may just be.
func TestBitsThatMayBe(t *testing.T) {
	for _, c := range []struct {
		bits   float64
		probes byte
	}{
		{math.SmallestNonzeroFloat64, 1}, {1e-300, 1}, {0.01, 1}, {math.Nextafter(50, 0), 34}, {50, 34},
	} {
		filter := builds(t, []string{"a"}, c.bits)
		if len(filter) != 9 || filter[8] != c.probes {
			t.Errorf("bits %v: % x", c.bits, filter)
		}
	}
}

// leastBits are the least bits that have 1, 2 .. 34 probes (of 1 those of which 0.69 times are 1): worked out apart from this program. Several are just a whole number only as a float64.
func leastBits() []float64 {
	return []float64{
		1.4492753623188408, 2.8985507246376816, 4.347826086956522, 5.797101449275363, 7.246376811594203, 8.695652173913045,
		10.144927536231885, 11.594202898550726, 13.043478260869566, 14.492753623188406, 15.942028985507248, 17.39130434782609,
		18.84057971014493, 20.28985507246377, 21.73913043478261, 23.188405797101453, 24.637681159420293, 26.086956521739133,
		27.536231884057973, 28.985507246376812, 30.434782608695652, 31.884057971014496, 33.333333333333336, 34.78260869565218,
		36.231884057971016, 37.68115942028986, 39.1304347826087, 40.57971014492754, 42.02898550724638, 43.47826086956522,
		44.92753623188406, 46.376811594202906, 47.82608695652174, 49.275362318840585,
	}
}

// probesAre tells a fault if a filter tells other probes, or sets other bits than so many probes do.
func probesAre(t *testing.T, perKey float64, probes int) {
	t.Helper()
	none := builds(t, nil, perKey)
	if int(none[len(none)-1]) != probes {
		t.Errorf("bits %v: %d probes, not %d", perKey, none[len(none)-1], probes)
	}
	one := builds(t, []string{"key"}, perKey)
	distinct := map[uint64]bool{}
	for _, place := range placesPlainly("key", probes, 64) {
		distinct[place] = true
	}
	set := 0
	for _, c := range one[:8] {
		set += bits.OnesCount8(c)
	}
	if set != len(distinct) || int(one[8]) != probes {
		t.Errorf("bits %v: %d bits are set, not %d, and %d probes told, not %d", perKey, set, len(distinct), one[8], probes)
	}
}

// P10.2: probes where 0.69 times bits is below 1, just a whole number, and just beneath one.
func TestProbes(t *testing.T) {
	for _, c := range []struct {
		bits   float64
		probes int
	}{
		{math.SmallestNonzeroFloat64, 1}, {0.5, 1}, {1, 1}, {1.4, 1}, {1.45, 1}, {2, 1}, {2.89, 1}, {2.9, 2}, {3, 2}, {5, 3}, {7, 4}, {8, 5},
		{10, 6}, {10.14, 6}, {10.15, 7}, {14, 9}, {15, 10}, {16, 11}, {20, 13}, {30, 20}, {40, 27}, {43, 29}, {43.4, 29}, {43.5, 30}, {44, 30},
		{44.9, 30}, {45, 31}, {50, 34},
	} {
		probesAre(t, c.bits, c.probes)
	}
	for i, least := range leastBits() {
		probesAre(t, math.Nextafter(least, 0), max(1, i))
		probesAre(t, least, i+1)
		probesAre(t, math.Nextafter(least, 51), i+1)
	}
}

// P10.2: how many bits: below 64, just 64, no multiple of 8, of no keys at all; the product is a float64, and is rounded down ahead of all else.
func TestHowManyBits(t *testing.T) {
	for _, c := range []struct {
		keys int
		bits float64
		size int
	}{
		{0, 10, 8}, {0, 50, 8}, {0, math.SmallestNonzeroFloat64, 8}, {1, 50, 8}, {1, 0.1, 8}, {1000, math.SmallestNonzeroFloat64, 8},
		{6, 10, 8}, {63, 1, 8}, {64, 1, 8}, {16, 4, 8}, {8, 8, 8}, {4, 16, 8}, {2, 32, 8}, {10, 6.4, 8}, {640, 0.1, 8},
		{64, math.Nextafter(1, 0), 8}, {64, math.Nextafter(1, 2), 8}, {65, math.Nextafter(1, 0), 8}, {129, 0.5, 8}, {130, 0.5, 9},
		{65, 1, 9}, {7, 10, 9}, {2, 33, 9}, {71, 1, 9}, {72, 1, 9}, {10, 7.25, 9}, {10, 7.29, 9}, {73, 1, 10}, {10, 7.3, 10},
		{79, 1, 10}, {80, 1, 10}, {81, 1, 11}, {2, 50, 13}, {100, 50, 625}, {1000, 10, 1250}, {1001, 10, 1252}, {1000, 0.999, 125}, {10000, 43, 53750},
		// As whole numbers these are just beneath 65, 73, 81, 1001 and 10001.
		{15, 4.333333333333333, 9}, {3, 24.333333333333332, 10}, {5, 16.2, 11}, {21, 47.666666666666664, 126}, {201, 49.756218905472636, 1251},
		// And these, as float64.
		{577, 0.1265164644714038, 9}, {147, 0.5510204081632653, 10}, {29, 34.51724137931034, 125},
	} {
		filter := builds(t, numbered(c.keys), c.bits)
		if len(filter) != c.size+1 {
			t.Errorf("%d keys, %v bits: %d bytes, not %d and 1", c.keys, c.bits, len(filter), c.size)
		}
	}
}

// P10.2: which bit of which byte is set; the filters were worked out apart from this program.
func TestWhichBitsAreSet(t *testing.T) {
	nine := numbered(9)
	for _, c := range []struct {
		keys []string
		bits float64
		want string
	}{
		{[]string{"a"}, 1, "0000000000000100 01"},
		{[]string{"a"}, 10, "0810204080000100 06"},
		{[]string{"a"}, 50, "f8f0e1c3870f1f3c 22"},
		{[]string{""}, 10, "0800040002001180 06"},
		{[]string{"\xff\xfe"}, 10, "4000044000440004 06"},
		{[]string{"\x80\x81\x82\x83\x84"}, 10, "0404101040000001 06"},
		{[]string{"a", "b"}, 10, "183060c080010300 06"},
		{[]string{"hello", "world"}, 10, "1140004144104010 06"},
		{[]string{"a", "bc", "def", "ghij", "klmno"}, 10, "08f02f6990311121 06"},
		{[]string{"a", "a", "a", "a", "a", "a", "a"}, 10, "400800000000218010 06"},
		{nine, 0.5, "4020100804010080 01"},
		{nine, 1.5, "4020100804010080 01"},
		{nine, 2.9, "5860100807010680 02"},
		{nine, 7.3, "c0d11525531a1f9334 05"},
		{nine, 10, "6dd156acc36318f2102a9008 06"},
		{nine, 14.5, "f25e3ad4e96bd73198b0057ddd56199d02 0a"},
		{nine, 43, "063dbdb91a0ebcc46113980f8089de9ea5f1d810088c1c519eb839d8f85b4372d5de147890fd96abcdb153d74e55f295da 1d"},
		{nine, 43.48, "063dbdb91a0efcd46113980f8089de9ea5f1d83008cc1c519eb839d8f85b4372d5de147890fd96abcdb173d76e5df295da 1e"},
		{nine, 45, "3dac3a58d1023ddd100ed110adfa159af2375ccc15aa7357398c359475d35a72bc42f803c8f59079d896d9bd847bd8d55dbb10 1f"},
	} {
		buildsAs(t, c.keys, c.bits, bytesOf(t, c.want))
	}
}

// P10.2: a filter is that of its keys' bits together, whatever their order; a key that comes twice is counted twice, and sets its bits once.
func TestOrderAndKeysThatComeTwice(t *testing.T) {
	keys := numbered(40)
	want := builds(t, keys, 10)
	slices.Reverse(keys)
	buildsAs(t, keys, 10, want)
	slices.Sort(keys)
	buildsAs(t, keys, 10, want)

	one := builds(t, []string{"a"}, 10)
	buildsAs(t, []string{"a", "a"}, 10, one)
	buildsAs(t, []string{"", "a", ""}, 10, builds(t, []string{"a", ""}, 10))
	twice := append(numbered(40), numbered(40)...)
	if filter := builds(t, twice, 10); len(filter) != 101 {
		t.Errorf("40 keys twice: %d bytes", len(filter))
	}
	buildsAs(t, twice, 10, buildPlainly(twice, 10))
}

// P10.2, R7: keys are any bytes, of any length; nil, none and a key of no bytes are told apart.
func TestKeysOfAllKinds(t *testing.T) {
	keys := []string{"", "\x00", "\x00\x00", "\xff", "\xed\xa0\x80", "\u20ac", rising(64, 1), rising(65, 1), rising(5000, 3), rising(1<<20, 3)}
	for _, bits := range []float64{0.3, 1, 3.7, 10, 43, 50} {
		for n := range len(keys) + 1 {
			buildsAs(t, keys[:n], bits, buildPlainly(keys[:n], bits))
		}
	}
	if bytes.Equal(builds(t, []string{""}, 10), builds(t, nil, 10)) {
		t.Error("a key of no bytes sets none")
	}
}

// P10.2: with many keys the filter has their bits.
func TestManyKeys(t *testing.T) {
	keys := numbered(20000)
	for _, bits := range []float64{0.01, 1, 10, 33.3} {
		filter := builds(t, keys, bits)
		if !bytes.Equal(filter, buildPlainly(keys, bits)) {
			t.Errorf("%d keys, %v bits: another filter", len(keys), bits)
		}
		for _, key := range keys {
			if !bloom.May(filter, key) {
				t.Fatalf("%q, %v bits", key, bits)
			}
		}
	}
}
