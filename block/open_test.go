package block_test

import (
	"encoding/binary"
	"math"
	"slices"
	"strings"
	"testing"

	"staddle/api"
)

// small are entries of which each block has few bytes.
func small() [][]api.KV {
	return [][]api.KV{
		nil,
		{put("", 0, "")},
		{put("ab", 1, "x"), put("ac", 1, "")},
		{put("a", 2, "v"), put("a", 1, text(130)), del("a", 0), put("ab", 7, "w"), del("b", 1)},
		numbered(17),
	}
}

// P11.2: no bytes, each cut of a block from either end, and a block with bytes behind.
func TestCutAndLonger(t *testing.T) {
	closed(t, "none", nil)
	closed(t, "none", []byte{})
	for _, l := range small() {
		for _, interval := range []int{1, 2, 3, 16} {
			b := laid(l, interval)
			for n := range b {
				asRead(t, b[:n])
				closed(t, "cut", b[:n])
				closed(t, "cut, without spare room", slices.Clone(b[:n:n]))
				// A cut from the other end may leave a block.
				asRead(t, b[n:])
			}
			for _, more := range []string{"\x00", "\x01", "\xff", "\x00\x00", "\x00\x00\x00\x00", "\x01\x00\x00\x00"} {
				closed(t, "longer", []byte(string(b)+more))
				closed(t, "longer ahead", []byte(more+string(b)))
			}
		}
	}
}

// P11.2: each byte of a block made each other one; some are blocks again.
func TestEachByteChanged(t *testing.T) {
	blocks := 0
	for _, l := range small()[:4] {
		for _, interval := range []int{1, 3} {
			b := laid(l, interval)
			for i := range b {
				for c := range 256 {
					other := slices.Clone(b)
					other[i] = byte(c)
					if asRead(t, other) {
						blocks++
					}
				}
			}
		}
	}
	if blocks < 1000 {
		t.Errorf("only %d blocks were among them", blocks)
	}
}

// P11.2: each bit of longer blocks turned, and each byte one more and one less.
func TestEachBitTurned(t *testing.T) {
	for _, interval := range []int{1, 2, 8, 16} {
		b := laid(numbered(17), interval)
		for i := range b {
			for bit := range 8 {
				other := slices.Clone(b)
				other[i] ^= 1 << bit
				asRead(t, other)
			}
			for _, step := range []byte{1, 255} {
				other := slices.Clone(b)
				other[i] += step
				asRead(t, other)
			}
		}
	}
}

// P11.2: an interval that another one would be as well: with no more entries than it says; and all that may not be.
func TestIntervalsTold(t *testing.T) {
	for n := range 20 {
		l := numbered(n)
		for told := range 256 {
			b := join(partsOf(l, 16), 16, byte(told), marksOf(n, 16))
			if told >= 1 && told <= 16 && n <= told || told == 16 {
				holds(t, opens(t, b), l)
			} else {
				closed(t, "an interval", b)
			}
		}
		if n > 2 {
			closed(t, "laid by 1, told 2", join(partsOf(l, 1), 1, 2, n))
			closed(t, "laid by 2, told 1", join(partsOf(l, 2), 2, 1, marksOf(n, 2)))
			closed(t, "laid by 2, told 3", join(partsOf(l, 2), 2, 3, marksOf(n, 2)))
			closed(t, "shared as by 3, marked as by 2", join(partsOf(l, 3), 2, 2, marksOf(n, 2)))
			closed(t, "shared as by 2, marked as by 3", join(partsOf(l, 2), 3, 3, marksOf(n, 3)))
		}
	}
}

// P11.2: counts of marks that are too many or too few, up to the greatest.
func TestCounts(t *testing.T) {
	for _, l := range small() {
		for _, interval := range []int{1, 2, 16} {
			right := marksOf(len(l), interval)
			for _, count := range []int{0, 1, 2, 3, 4, 5, 6, 7, 16, 17, 18, 255, 256, 257, 1 << 16, 1 << 24, 1 << 30, 1<<30 + right, 1 << 31, 1<<31 - 1, 1<<32 - 1, right - 1, right + 1} {
				if uint32(count) != uint32(right) {
					closed(t, "a count", join(partsOf(l, interval), interval, byte(interval), count))
				}
			}
		}
	}
	closed(t, "a mark of nothing", []byte("\x00\x00\x00\x00\x01\x01\x00\x00\x00"))
	closed(t, "two marks of nothing", []byte("\x00\x00\x00\x00\x00\x00\x00\x00\x01\x02\x00\x00\x00"))
	whole := string(laid(numbered(2), 2))
	foot := len(whole) - 9
	closed(t, "a mark at the end", []byte(whole[:foot]+"\x00\x00\x00\x00"+string(binary.LittleEndian.AppendUint32(nil, uint32(foot)))+"\x02\x02\x00\x00\x00"))
	closed(t, "no mark", []byte(whole[:foot]+"\x02\x00\x00\x00\x00"))
	closed(t, "two marks at the beginning", []byte(whole[:foot]+"\x00\x00\x00\x00\x00\x00\x00\x00\x02\x02\x00\x00\x00"))
}

// P11.2: places of marks that are not theirs: inside and outside, by one and by very much, two that are exchanged.
func TestPlaces(t *testing.T) {
	for _, interval := range []int{1, 2, 3, 16} {
		l := numbered(17)
		b := laid(l, interval)
		marks := marksOf(len(l), interval)
		first := len(b) - 5 - 4*marks
		for m := range marks {
			at := first + 4*m
			right := binary.LittleEndian.Uint32(b[at:])
			others := []uint32{0, 1, right - 1, right + 1, uint32(first), uint32(first - 1), uint32(first + 1), uint32(len(b)), 1 << 31, math.MaxUint32, right + 1<<16, right + 1<<24, right + 1<<31}
			for k := range marks {
				others = append(others, binary.LittleEndian.Uint32(b[first+4*k:]))
			}
			for _, place := range others {
				if place != right {
					other := slices.Clone(b)
					binary.LittleEndian.PutUint32(other[at:], place)
					closed(t, "a place", other)
				}
			}
		}
		if marks > 1 {
			other := slices.Clone(b)
			copy(other[first:], b[first+4:first+8])
			copy(other[first+4:], b[first:first+4])
			closed(t, "two places exchanged", other)
		}
	}
}

// withHead is a block of one interval whose entry i has a head of other bytes.
func withHead(parts []part, i int, head string) []byte {
	interval := 16
	var b, places []byte
	for k, p := range parts {
		if k%interval == 0 {
			places = binary.LittleEndian.AppendUint32(places, uint32(len(b)))
		}
		if k == i {
			b = append(b, head...)
		} else {
			for _, n := range []uint64{p.same, p.left, p.size} {
				b = binary.AppendUvarint(b, n)
			}
		}
		b = append(b, p.rest+p.value...)
	}
	b = append(append(b, places...), byte(interval))
	return binary.LittleEndian.AppendUint32(b, uint32(len(places)/4))
}

// wide is a number in so many bytes, more than it may need.
func wide(n uint64, size int) string {
	var b strings.Builder
	for range size - 1 {
		b.WriteByte(byte(n&0x7f | 0x80))
		n >>= 7
	}
	b.WriteByte(byte(n))
	return b.String()
}

// P11.2: numbers that are written with more bytes than they need, or have no end.
func TestWideNumbers(t *testing.T) {
	l := append(numbered(18), put("v", 1, text(200)))
	parts := partsOf(l, 16)
	for i, p := range parts {
		narrow := []string{string(binary.AppendUvarint(nil, p.same)), string(binary.AppendUvarint(nil, p.left)), string(binary.AppendUvarint(nil, p.size))}
		holds(t, opens(t, withHead(parts, i, strings.Join(narrow, ""))), l)
		for which, n := range []uint64{p.same, p.left, p.size} {
			head := slices.Clone(narrow)
			for size := len(narrow[which]) + 1; size <= 11; size++ {
				head[which] = wide(n, size)
				closed(t, "a wide number", withHead(parts, i, strings.Join(head, "")))
			}
			for _, bad := range []string{"", strings.Repeat("\xff", 9) + "\x02", strings.Repeat("\xff", 11), "\x80"} {
				head[which] = bad
				closed(t, "a number that is none", withHead(parts, i, strings.Join(head, "")))
			}
		}
	}
}

// P11.2: numbers that point outside, up to the greatest, and two whose sum wraps round to the right one.
func TestGreatNumbers(t *testing.T) {
	l := numbered(18)
	right := partsOf(l, 16)
	great := []uint64{1 << 7, 1 << 10, 1 << 14, 1<<31 - 1, 1 << 31, 1<<32 - 1, 1 << 32, 1<<63 - 1, 1 << 63, 1<<64 - 16, 1<<64 - 1}
	for i := range l {
		for which := range 3 {
			with := func(n uint64) []byte {
				parts := slices.Clone(right)
				*[]*uint64{&parts[i].same, &parts[i].left, &parts[i].size}[which] = n
				return join(parts, 16, 16, 2)
			}
			for _, n := range great {
				closed(t, "a great number", with(n))
			}
			// Near the right one there are blocks, of other keys.
			for d := uint64(1); d < 20; d++ {
				p := right[i]
				n := []uint64{p.same, p.left, p.size}[which]
				asRead(t, with(n+d))
				asRead(t, with(n-d))
			}
		}
		for _, n := range great {
			parts := slices.Clone(right)
			parts[i].left, parts[i].size = n, parts[i].left+parts[i].size-n
			closed(t, "a sum that is right", join(parts, 16, 16, 2))
			parts = slices.Clone(right)
			parts[i].same, parts[i].left = n, parts[i].same+parts[i].left-n
			closed(t, "a key's length that is right", join(parts, 16, 16, 2))
		}
	}
}

// P11.2: what is shared is as much as can be, no more than the key ahead has, and nothing at a mark.
func TestSharedOtherwise(t *testing.T) {
	l := numbered(18)
	right := partsOf(l, 16)
	for i, e := range l {
		key := keyBytes(e.Key)
		for same := range len(key) + 20 {
			parts := slices.Clone(right)
			rest := key[min(same, len(key)):]
			parts[i].same, parts[i].left, parts[i].rest = uint64(same), uint64(len(rest)), rest
			b := join(parts, 16, 16, 2)
			if same == int(right[i].same) {
				holds(t, opens(t, b), l)
			} else {
				closed(t, "another beginning", b)
			}
		}
	}
	// At a mark nothing is shared, though the key ahead begins alike.
	closed(t, "shared at a mark", join(partsOf(l, 16), 1, 1, 18))
	closed(t, "shared at the first", join([]part{{1, 8, 0, keyBytes(api.IKey{}), ""}}, 1, 1, 1))
	closed(t, "all of the key ahead", join([]part{{0, 9, 0, keyBytes(put("a", 1, "").Key), ""}, {9, 0, 0, "", ""}}, 2, 2, 1))
}

// P11.2: entries that Build refuses are not read, though they are laid as others are.
func TestRefusedEntries(t *testing.T) {
	for name, l := range map[string][]api.KV{
		"a key of 65":             {put(text(65), 1, "")},
		"a key of 65, the last":   {put("a", 1, ""), put("b", 1, ""), put("c"+text(64), 1, "")},
		"a key of 5000":           {put(text(5000), 1, "")},
		"a kind of 2":             {{Key: api.IKey{User: "a", Seq: 1, Kind: 2}}},
		"a kind of 255":           {{Key: api.IKey{User: "a", Seq: 1, Kind: 255}}},
		"a kind of 2, the last":   {put("a", 1, ""), {Key: api.IKey{User: "b", Seq: 1, Kind: 2}}},
		"a value of 1001":         {put("a", 1, text(1001))},
		"a value of 5000, behind": {put("a", 1, ""), put("b", 1, text(5000))},
		"the same":                {put("a", 1, ""), put("a", 1, "")},
		"the same, other values":  {put("a", 1, "x"), put("a", 1, "y")},
		"a greater number":        {put("a", 1, ""), put("a", 2, "")},
		"a greater kind":          {del("a", 1), put("a", 1, "")},
		"a user ahead":            {put("b", 1, ""), put("a", 1, "")},
		"a beginning":             {put("ab", 1, ""), put("a", 1, "")},
		"the third ahead":         {put("a", 1, ""), put("c", 1, ""), put("b", 1, "")},
		"the fourth the same":     {put("a", 1, ""), put("b", 1, ""), put("c", 1, ""), put("c", 1, "")},
	} {
		for interval := 1; interval <= 16; interval++ {
			closed(t, name, laid(l, interval))
		}
	}
	for _, rest := range []string{"", "a", "\x01\x01\x00\x00\x00\x00\x00"} {
		closed(t, "a key of too few bytes", join([]part{{0, uint64(len(rest)), 0, rest, ""}}, 1, 1, 1))
	}
}

// P11.2: entries that don't rise, at each place of a block.
func TestExchangedEntries(t *testing.T) {
	for _, interval := range []int{1, 2, 3, 16} {
		for i := range 19 {
			l := numbered(20)
			l[i], l[i+1] = l[i+1], l[i]
			closed(t, "exchanged", laid(l, interval))
			l = numbered(20)
			l[i+1] = l[i]
			closed(t, "the same", laid(l, interval))
		}
	}
}

// R1: long bytes that are no block are answered soon, and without room for what they only tell.
func TestLongBytesThatAreNone(t *testing.T) {
	const size = 1 << 24
	for _, c := range []byte{0, 1, 0x7f, 0x80, 0xff} {
		b := slices.Repeat([]byte{c}, size)
		closed(t, "one byte again and again", b)
		for _, count := range []uint32{0, 1, 2, size/4 - 2, size / 4, 1 << 30, math.MaxUint32} {
			b[size-5] = 16
			binary.LittleEndian.PutUint32(b[size-4:], count)
			closed(t, "one byte again and again, and a foot", b)
		}
	}
	// Each entry would have all of the key ahead and a byte more.
	var b []byte
	for i := range 1 << 20 {
		b = append(binary.AppendUvarint(b, uint64(i)), 1, 0, 'k')
	}
	closed(t, "keys that grow", append(b, 0, 0, 0, 0, 16, 1, 0, 0, 0))
}
