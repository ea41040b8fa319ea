package sstable_test

import (
	"encoding/binary"
	"math"
	"slices"
	"strings"
	"testing"

	"staddle/api"
)

// some is a table of a few blocks, of the entries that numbered tells.
func some() made { return laid(numbered(12), usual) }

// withNumber are a table's bytes with one of the five numbers of its last ones changed.
func withNumber(b []byte, which int, n uint32) []byte {
	other := slices.Clone(b)
	binary.LittleEndian.PutUint32(other[len(b)-28+4*which:], n)
	return other
}

// numberOf is one of the five numbers of a table's last bytes.
func numberOf(b []byte, which int) uint32 {
	return binary.LittleEndian.Uint32(b[len(b)-28+4*which:])
}

// others are numbers that are not n: near it, near a table's size, and very great.
func others(n uint32, size int) []uint32 {
	var l []uint32
	for _, base := range []uint32{0, n, uint32(size), uint32(size - 28), 1 << 16, 1 << 24, 1 << 31, n + 1<<31, n + 1<<16} {
		for d := range uint32(40) {
			l = append(l, base+d, base-d)
		}
	}
	return slices.DeleteFunc(l, func(m uint32) bool { return m == n })
}

// P12.2: fewer than 28 bytes are none, whatever they are; just 28 are none either, as there is no part ahead of them.
func TestFewBytes(t *testing.T) {
	b := some().bytes()
	for n := range 28 {
		closed(t, "the last ones", b[len(b)-n:], api.ErrTableForm)
		closed(t, "the first ones", b[:n], api.ErrTableForm)
		closed(t, "zeros", make([]byte, n), api.ErrTableForm)
		closed(t, "the text", []byte(text(n)+"staddle1"), api.ErrTableForm)
		closed(t, "zeros and the text", append(make([]byte, n), "staddle1"...), api.ErrTableForm)
		closed(t, "the text's end", []byte("staddle1"[max(0, 8-n):]), api.ErrTableForm)
	}
	closed(t, "just the last ones", b[len(b)-28:], api.ErrTableForm)
	closed(t, "nothing", nil, api.ErrTableForm)
}

// P12.2: other last eight bytes.
func TestOtherText(t *testing.T) {
	b := some().bytes()
	for i := range 8 {
		for c := range 256 {
			other := slices.Clone(b)
			other[len(b)-8+i] = byte(c)
			if c == int("staddle1"[i]) {
				opens(t, other)
			} else {
				closed(t, "the text", other, api.ErrTableForm)
			}
		}
	}
	for _, ending := range []string{"staddle2", "Staddle1", "staddle\x00", "1elddats", "\x00\x00\x00\x00\x00\x00\x00\x00"} {
		closed(t, "the text", append(slices.Clone(b[:len(b)-8]), ending...), api.ErrTableForm)
	}
}

// P12.2: of the four numbers of places each that is changed alone is ErrTableForm.
func TestEachNumberChanged(t *testing.T) {
	for _, m := range []made{some(), laid(numbered(1), usual), laid(numbered(40), api.Options{Block: 1, Interval: 1, Bits: 50})} {
		b := m.bytes()
		for which := range 4 {
			for _, n := range others(numberOf(b, which), len(b)) {
				closed(t, "a number", withNumber(b, which, n), api.ErrTableForm)
			}
		}
	}
}

// P12.2: another count of entries is not looked at by Open, nor by Get; All tells it.
func TestAnotherCount(t *testing.T) {
	l := numbered(12)
	b := some().bytes()
	for _, n := range others(12, len(b)) {
		x := opens(t, withNumber(b, 4, n))
		if x.Blocks() != len(some().blocks) {
			t.Errorf("Blocks is %d", x.Blocks())
		}
		broken(t, "a count", x, api.ErrTableForm)
		gets(t, x, l[0].Key.User, 90, l[0].Value, api.There)
	}
	holds(t, opens(t, withNumber(b, 4, 12)), l)
}

// P12.2: two numbers that are changed so that the places fit again: then the sums are asked; but no sum that wraps round fits.
func TestTwoNumbersChanged(t *testing.T) {
	b := some().bytes()
	for _, d := range []uint32{1, 2, 3, 4, 5, 8} {
		for _, by := range []uint32{d, -d} {
			moved := func(first, second int) []byte {
				return withNumber(withNumber(b, first, numberOf(b, first)+by), second, numberOf(b, second)-by)
			}
			closed(t, "the filter begins elsewhere", moved(0, 1), api.ErrTableSum)
			closed(t, "the index begins elsewhere", withNumber(moved(2, 3), 1, numberOf(b, 1)+by), api.ErrTableSum)
			closed(t, "the index begins elsewhere, the filter does not end there", moved(2, 3), api.ErrTableForm)
			closed(t, "both sizes", moved(1, 3), api.ErrTableForm)
			closed(t, "both beginnings", moved(0, 2), api.ErrTableForm)
		}
	}
	for _, d := range []uint32{1 << 31, 1 << 30, 1<<31 + 1, 1<<32 - 1000, 12345} {
		around := withNumber(withNumber(b, 0, numberOf(b, 0)+d), 1, numberOf(b, 1)-d)
		closed(t, "the filter's end wraps round", around, api.ErrTableForm)
		around = withNumber(withNumber(withNumber(b, 2, numberOf(b, 2)+d), 3, numberOf(b, 3)-d), 1, numberOf(b, 1)+d)
		closed(t, "the index' end wraps round", around, api.ErrTableForm)
	}
	for which := range 4 {
		all := slices.Clone(b)
		for i := range which + 1 {
			all = withNumber(all, i, math.MaxUint32)
		}
		closed(t, "very great", all, api.ErrTableForm)
	}
}

// P12.2: bytes between parts, ahead of them, behind them, and parts that overlap, or stand the other way round.
func TestPartsElsewhere(t *testing.T) {
	m := some()
	b := m.bytes()
	blocks, filter, index := int(numberOf(b, 0)), int(numberOf(b, 1)), int(numberOf(b, 3))
	whole := func(gaps [3]string, numbers [4]int) []byte {
		parts := string(b[:blocks]) + gaps[0] + string(b[blocks:blocks+filter+4]) + gaps[1] + string(b[blocks+filter+4:len(b)-28]) + gaps[2]
		other := []byte(parts + string(b[len(b)-28:]))
		for i, n := range numbers {
			other = withNumber(other, i, uint32(n))
		}
		return other
	}
	at := blocks + filter + 4
	opens(t, whole([3]string{}, [4]int{blocks, filter, at, index}))
	for n := 1; n < 9; n++ {
		gap := text(n)
		closed(t, "behind the blocks", whole([3]string{gap}, [4]int{blocks + n, filter, at + n, index}), api.ErrTableForm)
		closed(t, "behind the filter", whole([3]string{"", gap}, [4]int{blocks, filter, at + n, index}), api.ErrTableForm)
		closed(t, "in the filter", whole([3]string{"", gap}, [4]int{blocks, filter + n, at + n, index}), api.ErrTableSum)
		closed(t, "behind the index", whole([3]string{"", "", gap}, [4]int{blocks, filter, at, index}), api.ErrTableForm)
		closed(t, "in the index", whole([3]string{"", "", gap}, [4]int{blocks, filter, at, index + n}), api.ErrTableSum)
		closed(t, "overlapping", whole([3]string{}, [4]int{blocks, filter, at - n, index + n}), api.ErrTableForm)
		closed(t, "overlapping, the filter's end too", whole([3]string{}, [4]int{blocks, filter - n, at - n, index + n}), api.ErrTableSum)
	}
	closed(t, "the index first", joined(append(slices.Clone(m.blocks), blockOf(m.index, 1), m.filter), m.count), api.ErrTableForm)
	closed(t, "the other way round", whole([3]string{}, [4]int{at, index, blocks, filter}), api.ErrTableForm)
}

// P12.2: each byte of the filter's part and of the index' is summed, and so are the sums' own; what is ahead of them is not looked at.
func TestSums(t *testing.T) {
	b := some().bytes()
	first := int(numberOf(b, 0))
	for i := range len(b) - 28 {
		for bit := range 8 {
			other := slices.Clone(b)
			other[i] ^= 1 << bit
			if i < first {
				opens(t, other)
			} else {
				closed(t, "a bit turned", other, api.ErrTableSum)
			}
		}
	}
	// A sum that is not masked, or that lies the other way round, is none.
	for _, end := range []int{int(numberOf(b, 2)), len(b) - 28} {
		other := slices.Clone(b)
		slices.Reverse(other[end-4 : end])
		closed(t, "the other way round", other, api.ErrTableSum)
		n := binary.LittleEndian.Uint32(b[end-4:]) - 0xA282EAD8
		binary.LittleEndian.PutUint32(other[end-4:], n<<15|n>>17)
		closed(t, "not masked", other, api.ErrTableSum)
	}
}

// P12.2, R2: the places come first, then the sums, then the index.
func TestWhichErrorComesFirst(t *testing.T) {
	bad := some().withIndex([]byte("no block"))
	closed(t, "the index", bad, api.ErrTableForm)
	for _, i := range []int{int(numberOf(bad, 0)), int(numberOf(bad, 2))} {
		other := slices.Clone(bad)
		other[i] ^= 1
		closed(t, "a sum ahead of the index", other, api.ErrTableSum)
		closed(t, "a place ahead of a sum", withNumber(other, 2, 5), api.ErrTableForm)
		other[len(other)-1] ^= 1
		closed(t, "the text ahead of a sum", other, api.ErrTableForm)
	}
}

// P12.2: an index of which each entry is right, but that is laid with another interval, has none, or is no block.
func TestOtherIndexes(t *testing.T) {
	for _, n := range []int{1, 2, 12, 40} {
		m := laid(numbered(n), usual)
		for interval := 1; interval <= 16; interval++ {
			m.interval = interval
			if interval == 1 {
				holds(t, opens(t, m.bytes()), numbered(n))
			} else {
				closed(t, "an interval", m.bytes(), api.ErrTableForm)
			}
		}
		index := blockOf(m.index, 1)
		for k := range index {
			closed(t, "cut", m.withIndex(index[:k]), api.ErrTableForm)
			closed(t, "cut ahead", m.withIndex(index[k+1:]), api.ErrTableForm)
		}
		closed(t, "a byte behind", m.withIndex(append(slices.Clone(index), 0)), api.ErrTableForm)
		closed(t, "another interval told", m.withIndex(append(slices.Clone(index[:len(index)-5]), 2, byte(len(m.index)), 0, 0, 0)), api.ErrTableForm)
		m.index = nil
		m.interval = 1
		closed(t, "no entry", m.bytes(), api.ErrTableForm)
		m.blocks = nil
		closed(t, "no entry, no block", m.bytes(), api.ErrTableForm)
		m.interval = 2
		closed(t, "no entry, no block, another interval", m.bytes(), api.ErrTableForm)
	}
}

// P12.2: keys of an index that do not rise.
func TestIndexKeysThatDoNotRise(t *testing.T) {
	m := some()
	index := blockOf(m.index, 1)
	first, second := m.index[0].Key.User, m.index[1].Key.User
	for _, user := range []string{first, second} {
		if strings.Count(string(index), user) != 1 {
			t.Fatal("the users are not told apart")
		}
	}
	opens(t, m.withIndex(index))
	closed(t, "the same twice", m.withIndex([]byte(strings.Replace(string(index), first, "zzzz", 1))), api.ErrTableForm)
	closed(t, "the second first", m.withIndex([]byte(strings.Replace(string(index), second, "AAAA", 1))), api.ErrTableForm)
}

// withPlaces are a table's bytes with other values in its index.
func withPlaces(m made, values ...string) []byte {
	m.index = slices.Clone(m.index[:len(values)])
	for i, value := range values {
		m.index[i].Value = value
	}
	return m.bytes()
}

// three is a table of three blocks, and where they begin, and the filter's beginning.
func three() (m made, at [4]int) {
	l := numbered(6)
	m = handMade(2, l[:2], l[2:4], l[4:])
	for i, b := range m.blocks {
		at[i+1] = at[i] + len(b) + 4
	}
	return m, at
}

// P12.2: the places that an index tells are one behind the other, from 0 on, up to the filter's.
func TestPlacesOfBlocks(t *testing.T) {
	m, at := three()
	right := []string{m.index[0].Value, m.index[1].Value, m.index[2].Value}
	if n := opens(t, withPlaces(m, right...)).Blocks(); n != 3 {
		t.Fatalf("%d blocks", n)
	}
	size := func(from, to int) int { return at[to] - at[from] - 4 }
	// Fewer blocks that are just as long are a table, as far as Open looks.
	for _, c := range [][]string{
		{placeText(0, size(0, 3))},
		{right[0], placeText(at[1], size(1, 3))},
		{placeText(0, size(0, 2)), right[2]},
		{placeText(0, 0), placeText(4, 0), placeText(8, at[3]-12)},
		{right[0], placeText(at[1], 0), placeText(at[1]+4, size(1, 3)-4)},
	} {
		if n := opens(t, withPlaces(m, c...)).Blocks(); n != len(c) {
			t.Errorf("%d blocks, not %d", n, len(c))
		}
	}
	for name, c := range map[string][]string{
		"the first two alone":     right[:2],
		"the first alone":         right[:1],
		"the last alone":          right[2:],
		"the second twice":        {right[0], right[1], right[1]},
		"the first twice":         {right[0], right[0], right[1]},
		"exchanged":               {right[1], right[0], right[2]},
		"the second left out":     {right[0], right[2]},
		"up to the file's end":    {right[0], right[1], placeText(at[2], size(2, 3)+1)},
		"into the filter":         {right[0], right[1], placeText(at[2], size(2, 3)+20)},
		"short of the filter":     {right[0], right[1], placeText(at[2], size(2, 3)-1)},
		"the sum left out":        {right[0], right[1], placeText(at[2], size(2, 3)-4)},
		"the sum counted":         {right[0], right[1], placeText(at[2], size(2, 3)+4)},
		"a byte between":          {placeText(0, size(0, 1)-1), right[1], right[2]},
		"a byte over another":     {placeText(0, size(0, 1)+1), right[1], right[2]},
		"beginning at 1":          {placeText(1, size(0, 1)-1), right[1], right[2]},
		"all beginning at 1":      {placeText(1, size(0, 3)-1)},
		"outside":                 {right[0], right[1], placeText(at[3]+1000, 5)},
		"less than a sum is left": {placeText(0, at[3]-7), placeText(at[3]-3, 0)},
	} {
		closed(t, name, withPlaces(m, c...), api.ErrTableForm)
	}
}

// P12.2: places that are very great, or whose ends wrap round to the right ones.
func TestGreatPlaces(t *testing.T) {
	m, at := three()
	right := []string{m.index[0].Value, m.index[1].Value, m.index[2].Value}
	number := func(n uint64) string { return string(binary.AppendUvarint(nil, n)) }
	for _, n := range []uint64{1 << 16, 1 << 31, 1<<32 - 1, 1 << 32, 1<<63 - 1, 1 << 63, math.MaxUint64 - 4, math.MaxUint64 - 3, math.MaxUint64} {
		for i := range 3 {
			values := slices.Clone(right)
			values[i] = number(n) + number(uint64(len(m.blocks[i])))
			closed(t, "a great beginning", withPlaces(m, values...), api.ErrTableForm)
			values[i] = number(uint64(at[i])) + number(n)
			closed(t, "a great size", withPlaces(m, values...), api.ErrTableForm)
			values[i] = number(n+uint64(at[i])) + number(uint64(len(m.blocks[i]))-n)
			closed(t, "an end that is right", withPlaces(m, values...), api.ErrTableForm)
			values[i] = number(uint64(at[i]) + 1<<32)
			values[i] += number(uint64(len(m.blocks[i])))
			closed(t, "a beginning of 32 bits", withPlaces(m, values...), api.ErrTableForm)
			values[i] = number(uint64(at[i])) + number(uint64(len(m.blocks[i]))+1<<32)
			closed(t, "a size of 32 bits", withPlaces(m, values...), api.ErrTableForm)
		}
	}
	// The second one's end wraps round to 0 and to where it begins.
	for _, back := range []int{0, at[1]} {
		size := uint64(back) - uint64(at[1]) - 4
		closed(t, "an end that wraps round", withPlaces(m, right[0], number(uint64(at[1]))+number(size), right[2]), api.ErrTableForm)
		whole := number(uint64(back)) + number(uint64(at[3]-back-4))
		closed(t, "an end that wraps round, and goes on", withPlaces(m, right[0], number(uint64(at[1]))+number(size), whole), api.ErrTableForm)
	}
}

// wide is a number in so many bytes, more than it may need.
func wide(n, size int) string {
	var b strings.Builder
	for range size - 1 {
		b.WriteByte(byte(n&0x7f | 0x80))
		n >>= 7
	}
	b.WriteByte(byte(n))
	return b.String()
}

// P12.2: numbers with more bytes than they need, that have no end, or have bytes behind.
func TestWidePlaces(t *testing.T) {
	m, at := three()
	for i := range 3 {
		values := []string{m.index[0].Value, m.index[1].Value, m.index[2].Value}
		right := values[i]
		first, second := string(binary.AppendUvarint(nil, uint64(at[i]))), string(binary.AppendUvarint(nil, uint64(len(m.blocks[i]))))
		for size := 2; size <= 11; size++ {
			if size > len(first) {
				values[i] = wide(at[i], size) + second
				closed(t, "a wide beginning", withPlaces(m, values...), api.ErrTableForm)
			}
			if size > len(second) {
				values[i] = first + wide(len(m.blocks[i]), size)
				closed(t, "a wide size", withPlaces(m, values...), api.ErrTableForm)
			}
		}
		for _, value := range []string{"", first, first + "\x80", "\x80", "\xff\xff\xff\xff\xff\xff\xff\xff\xff\x02" + second, first + "\xff\xff\xff\xff\xff\xff\xff\xff\xff\x02", right + "\x00", right + right, "\x00" + right, right + text(900)} {
			values[i] = value
			closed(t, "no place", withPlaces(m, values...), api.ErrTableForm)
		}
		values[i] = right
		holds(t, opens(t, withPlaces(m, values...)), numbered(6))
	}
}

// P12.2: a block of no bytes has a place, too; nothing else may stand for its two numbers, which are 0.
func TestPlaceOfNoBytes(t *testing.T) {
	m := made{blocks: [][]byte{{}}, index: []api.KV{put("a", 1, "")}, interval: 1, count: 1}
	x := opens(t, withPlaces(m, "\x00\x00"))
	if n := x.Blocks(); n != 1 {
		t.Errorf("Blocks is %d", n)
	}
	broken(t, "no bytes", x, api.ErrTableForm)
	fails(t, x, "a", 1, api.ErrTableForm)
	gets(t, x, "b", 1, "", api.None)
	for _, value := range []string{"", "\x00", "\x00\x80", "\x80\x00", "\x80\x80", "\x80", "\x00\x00\x00", "\x80\x00\x00", "\x00\x80\x00", "\x00\x00\x80"} {
		closed(t, "no place", withPlaces(m, value), api.ErrTableForm)
	}
}

// P12.2: each cut of a table, from either end, and a table with bytes behind or ahead.
func TestCutAndLonger(t *testing.T) {
	for _, m := range []made{some(), laid(numbered(1), usual), laid(numbered(8), api.Options{Block: 1, Interval: 1, Bits: 1})} {
		b := m.bytes()
		for n := range b {
			closed(t, "cut", b[:n], api.ErrTableForm)
			closed(t, "cut, without spare room", slices.Clone(b[:n:n]), api.ErrTableForm)
			closed(t, "cut ahead", b[n+1:], api.ErrTableForm)
		}
		for _, more := range []string{"\x00", "\x01", "1", "staddle1", string(b[len(b)-28:]), string(b)} {
			closed(t, "longer", []byte(string(b)+more), api.ErrTableForm)
			closed(t, "longer ahead", []byte(more+string(b)), api.ErrTableForm)
		}
	}
}

// P12.2: filters that Build would not make are read: of none, of a byte, of very many.
func TestOtherFilters(t *testing.T) {
	l := numbered(12)
	for _, filter := range [][]byte{nil, {0}, {255}, {255, 255, 6}, make([]byte, 10000), slices.Repeat([]byte{255}, 10000)} {
		m := some()
		m.filter = filter
		x := opens(t, m.bytes())
		holds(t, x, l)
		for _, e := range l {
			value, what := known(l, e.Key.User, e.Key.Seq)
			gets(t, x, e.Key.User, e.Key.Seq, value, what)
		}
	}
}

// R1: long bytes that are no table are answered soon, and without room for what they only tell.
func TestLongBytesThatAreNone(t *testing.T) {
	for _, c := range []byte{0, 1, 0x80, 0xff} {
		b := slices.Repeat([]byte{c}, 1<<22)
		closed(t, "one byte again and again", b, api.ErrTableForm)
		closed(t, "and the text", append(b, "staddle1"...), api.ErrTableForm)
		closed(t, "as an index", made{count: 1}.withIndex(b), api.ErrTableForm)
	}
}
