package bloom_test

import (
	"strings"
	"testing"

	"staddle/bloom"
)

// P10.1: keys of each rest of four bytes, of bytes above 127, long ones; the numbers were worked out apart from this program.
func TestHash(t *testing.T) {
	for _, c := range []struct {
		key  string
		want uint32
	}{
		{"", 0xBC9F1D34},
		{"\x62", 0xEF1345C4},
		{"\xc3\x97", 0x5B663814},
		{"\xe2\x99\xa5", 0x323C078F},
		{"\xe1\x80\xb9\x32", 0xED21633A},
		{"a", 0x286E9DB0},
		{"ab", 0x39ACA330},
		{"abc", 0x855D012F},
		{"abcd", 0xB9C83353},
		{"abcde", 0x41D2C26D},
		{"abcdef", 0x919EB3E1},
		{"abcdefg", 0x8E0B1532},
		{"abcdefgh", 0xB2CE35DD},
		{"\x00", 0xE40B1E01},
		{"\x00\x00", 0xED22DEBB},
		{"\x00\x00\x00", 0x6AFA3C9D},
		{"\x00\x00\x00\x00", 0x3365F68D},
		{"\x00\x00\x00\x00\x00", 0x7F53BD14},
		{"\x80", 0x365EE853},
		{"\xff", 0xC20E0A90},
		{"\xff\xff", 0xCE11360D},
		{"\xff\xff\xff", 0x37559553},
		{"\xff\xff\xff\xff", 0x6CC17294},
		{"\xff\xff\xff\xff\xff", 0x7F83495B},
		{"\xff\xff\xff\xff\xff\xff\xff", 0x581C1AAB},
		{"\x00\xff", 0xF00E4BA6},
		{"\x00\x00\xff", 0x56673CA1},
		{"\x01\x02\x03\x04", 0x86121569},
		{"\x04\x03\x02\x01", 0x1E150321},
		{strings.Repeat("a", 64), 0x152C0619},
		{strings.Repeat("a", 1000), 0xBFD00164},
		{rising(70001, 7), 0x1E505550},
	} {
		if h := bloom.Hash(c.key); h != c.want {
			t.Errorf("Hash of %d bytes %.12q: %08X, not %08X", len(c.key), c.key, h, c.want)
		}
	}
}

// hashesPlainly tells a fault if a key has another number than the document tells.
func hashesPlainly(t *testing.T, key string) {
	t.Helper()
	if h, want := bloom.Hash(key), hashPlainly(key); uint64(h) != want {
		t.Errorf("Hash of %d bytes %.12q: %08X, not %08X", len(key), key, h, want)
	}
}

// P10.1: every byte at every place of a rest, and of what is ahead of it.
func TestHashOfEachByte(t *testing.T) {
	for n := range 10 {
		for at := range n {
			for c := range 256 {
				key := []byte(strings.Repeat("\x81", n))
				key[at] = byte(c)
				hashesPlainly(t, string(key))
			}
		}
	}
}

// P10.1: every length up to some hundreds, and some far above.
func TestHashOfEachLength(t *testing.T) {
	for n := range 300 {
		hashesPlainly(t, rising(n, 7))
		hashesPlainly(t, strings.Repeat("\xff", n))
		hashesPlainly(t, strings.Repeat("\x00", n))
	}
	for _, n := range []int{65535, 65536, 65537, 1 << 20, 1<<20 + 3} {
		hashesPlainly(t, rising(n, 3))
	}
}

// P10.1, R7: a key is its bytes, not its runes.
func TestHashTakesBytes(t *testing.T) {
	for _, key := range []string{"\u00e9", "e\u0301", "\u20ac", "\U0001F600", "\xed\xa0\x80", "\xff\xfe", "a\x00b", "\r\n"} {
		hashesPlainly(t, key)
	}
}
