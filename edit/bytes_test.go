package edit_test

import (
	"bytes"
	"math"
	"runtime"
	"slices"
	"strings"
	"testing"

	"staddle/api"
	"staddle/edit"
)

// some are edits that may be, of each kind.
func some() map[string]api.Edit {
	wide := api.File{Level: 3, Num: topNum, Size: topSize, Small: put("", topSeq), Large: del(strings.Repeat("\xff", 64), 0)}
	point := api.File{Level: 0, Num: 1, Size: 1, Small: del("", 0), Large: del("", 0)}
	return map[string]api.Edit{
		"nothing":     {},
		"Log":         {Log: 1},
		"Next":        {Next: 300},
		"Last":        {Last: topSeq},
		"one gone":    dels(api.Gone{Level: 3, Num: topNum}),
		"one added":   adds(file(2, 128)),
		"both":        {Log: 127, Next: 128, Last: 16384, Dels: manyGone(2), Adds: manyFiles(2)},
		"edges":       {Log: topNum, Next: topNum, Last: topSeq, Dels: manyGone(1), Adds: []api.File{wide, point, wide}},
		"128 gone":    dels(manyGone(128)...),
		"100 added":   adds(manyFiles(100)...),
		"three, four": {Next: 5, Dels: manyGone(3), Adds: manyFiles(4)},
	}
}

// P13.2: bytes that are written out.
func TestBytes(t *testing.T) {
	for _, c := range []struct {
		x    api.Edit
		want []byte
	}{
		{api.Edit{Log: 1, Next: 2, Last: 3}, []byte{1, 2, 3, 0, 0}},
		{api.Edit{Log: 300, Next: 128, Last: 127}, []byte{0xAC, 2, 0x80, 1, 0x7F, 0, 0}},
		{api.Edit{Log: topNum}, []byte{0x80, 0x80, 0x80, 0x80, 0x80, 0x20, 0, 0, 0, 0}},
		{api.Edit{Last: topSeq}, []byte{0, 0, 0xFF, 0xFF, 0xFF, 0xFF, 0xFF, 0xFF, 0xFF, 0x7F, 0, 0}},
		{dels(api.Gone{Level: 3, Num: 4}, api.Gone{Level: 0, Num: 130}), []byte{0, 0, 0, 2, 3, 4, 0, 0x82, 1, 0}},
		{
			adds(api.File{Level: 2, Num: 5, Size: 200, Small: put("a", 1), Large: del("bc", 258)}),
			[]byte{0, 0, 0, 0, 1, 2, 5, 0xC8, 1,
				9, 'a', 1, 1, 0, 0, 0, 0, 0, 0,
				10, 'b', 'c', 0, 2, 1, 0, 0, 0, 0, 0},
		},
		{
			api.Edit{Log: 6, Next: 7, Last: 8, Dels: []api.Gone{{Level: 1, Num: 2}}, Adds: []api.File{{Level: 3, Num: 4, Size: 5, Small: put("", 2), Large: put("", 1)}}},
			[]byte{6, 7, 8, 1, 1, 2, 1, 3, 4, 5,
				8, 1, 2, 0, 0, 0, 0, 0, 0,
				8, 1, 1, 0, 0, 0, 0, 0, 0},
		},
	} {
		if b, err := edit.Encode(c.x); !bytes.Equal(b, c.want) || err != api.OK {
			t.Errorf("%+v: % x, %d", c.x, b, err)
		}
		reads(t, "written out", c.want, c.x)
	}
}

// P13.2, P13.3: what is laid is read; what is read is laid again.
func TestThereAndBack(t *testing.T) {
	for what, x := range some() {
		may(t, what, x)
		b, _ := edit.Encode(x)
		read, err := edit.Decode(b)
		again, wrong := edit.Encode(read)
		if !alike(read, x) || err != api.OK || !bytes.Equal(again, b) || wrong != api.OK {
			t.Errorf("%s: %+v, %d; % x, %d", what, read, err, again, wrong)
		}
	}
}

// P13.2: bytes of an edit, cut at each place.
func TestCut(t *testing.T) {
	for what, x := range some() {
		b := laid(x)
		for n := range b {
			none(t, what+", cut", b[:n])
			none(t, what+", cut, in memory of its own", slices.Clip(slices.Clone(b[:n])))
		}
	}
}

// P13.2: bytes of an edit with more behind.
func TestMore(t *testing.T) {
	for what, x := range some() {
		b := laid(x)
		for _, more := range [][]byte{{0}, {1}, {0x80}, {0xFF}, {0, 0, 0, 0, 0}, make([]byte, 1000), laid(api.Edit{}), b} {
			none(t, what+", more behind", slices.Concat(b, more))
		}
	}
	for n := range 100 {
		if n != 5 {
			none(t, "noughts", make([]byte, n))
		}
	}
}

// piece is a number, or the bytes of a key.
type piece struct {
	number bool
	b      []byte
}

// number is a piece that is one.
func number(n uint64) piece { return piece{true, numbers(n)} }

// keyPieces are a key's length and its bytes.
func keyPieces(k api.IKey) []piece {
	b := keyBytes(k)
	return []piece{number(uint64(len(b))), {false, b}}
}

// pieces are an edit's bytes, thing by thing.
func pieces(x api.Edit) []piece {
	l := []piece{number(x.Log), number(x.Next), number(x.Last), number(uint64(len(x.Dels)))}
	for _, g := range x.Dels {
		l = append(l, number(uint64(g.Level)), number(g.Num))
	}
	l = append(l, number(uint64(len(x.Adds))))
	for _, f := range x.Adds {
		l = append(l, number(uint64(f.Level)), number(f.Num), number(uint64(f.Size)))
		l = append(l, keyPieces(f.Small)...)
		l = append(l, keyPieces(f.Large)...)
	}
	return l
}

// with are pieces' bytes, one of them other ones.
func with(l []piece, at int, b []byte) []byte {
	var out []byte
	for i, p := range l {
		if i == at {
			out = append(out, b...)
		} else {
			out = append(out, p.b...)
		}
	}
	return out
}

// longer is a number in so many more bytes than it needs.
func longer(b []byte, more int) []byte {
	out := slices.Clone(b)
	for range more {
		out[len(out)-1] |= 0x80
		out = append(out, 0)
	}
	return out
}

// P13.2: byte by byte: a number that is written with more bytes than it needs is none, wherever it stands.
func TestLongNumbers(t *testing.T) {
	for what, x := range some() {
		l := pieces(x)
		reads(t, what, with(l, -1, nil), x)
		for i, p := range l {
			if !p.number {
				continue
			}
			for more := 1; len(p.b)+more <= 12; more++ {
				none(t, what+", a long number", with(l, i, longer(p.b, more)))
			}
			none(t, what+", a number without an end", with(l[:i+1], i, longer(p.b, 1)[:len(p.b)]))
		}
	}
}

// P13.2: a number that has no room, and ones that are very great, wherever they stand.
func TestNoRoom(t *testing.T) {
	ff := bytes.Repeat([]byte{0xFF}, 9)
	for what, x := range some() {
		l := pieces(x)
		for i, p := range l {
			if !p.number {
				continue
			}
			for _, last := range []byte{2, 0x7F, 0x80, 0xFF} {
				none(t, what+", a number that has no room", with(l, i, append(slices.Clone(ff), last)))
			}
			for _, n := range []uint64{1 << 32, 1 << 40, 1<<40 + 1, 1<<56 - 1, 1 << 56, 1 << 63, 1<<63 + 1, math.MaxUint64} {
				asRead(t, with(l, i, numbers(n)))
			}
		}
	}
}

// P13.2: counts that are very great, or say more or less than there is.
func TestCounts(t *testing.T) {
	great := []uint64{20001, 20002, 1 << 16, 1 << 31, 1<<31 - 1, 1 << 32, 1 << 40, 1 << 56, 1 << 62, 1 << 63, math.MaxUint64}
	for what, x := range some() {
		l := pieces(x)
		places := []int{3, 4 + 2*len(x.Dels)}
		for i, n := range []int{len(x.Dels), len(x.Adds)} {
			for _, other := range append(great, uint64(n)+1, uint64(n)+2, uint64(n)+100, 101, 100, 20000) {
				if other != uint64(n) {
					none(t, what+", another count", with(l, places[i], numbers(other)))
				}
			}
			if n > 0 {
				none(t, what+", a count too few", with(l, places[i], numbers(uint64(n)-1)))
				none(t, what+", a count of none", with(l, places[i], numbers(0)))
			}
		}
	}
	for _, n := range great {
		none(t, "a great count of nothing", numbers(0, 0, 0, n))
		none(t, "a great count of nothing", numbers(0, 0, 0, 0, n))
		none(t, "a great count", append(numbers(0, 0, 0, n), bytes.Repeat([]byte{1}, 100000)...))
		none(t, "a great count", append(numbers(0, 0, 0, 0, n), bytes.Repeat([]byte{1}, 100000)...))
	}
}

// P13.2: as many as there may be are read, and one more is not, even where all of them are there.
func TestCountsAtTheirEdges(t *testing.T) {
	reads(t, "20000", laid(dels(manyGone(20000)...)), dels(manyGone(20000)...))
	reads(t, "100", laid(adds(manyFiles(100)...)), adds(manyFiles(100)...))
	none(t, "20001", laid(dels(manyGone(20001)...)))
	none(t, "101", laid(adds(manyFiles(101)...)))
}

// P13.2: a great count is refused at once, without room for what it says or for what is there.
func TestRoom(t *testing.T) {
	much := bytes.Repeat([]byte{1}, 1<<20)
	all := [][]byte{append(numbers(0, 0, 0, 20001), much...), append(numbers(0, 0, 0, 0, 101), much...), numbers(0, 0, 0, 20000), numbers(0, 0, 0, 0, 100)}
	var was, is runtime.MemStats
	runtime.ReadMemStats(&was)
	for _, b := range all {
		none(t, "a great count", b)
	}
	runtime.ReadMemStats(&is)
	if n := is.TotalAlloc - was.TotalAlloc; n > 1<<18 {
		t.Errorf("%d bytes were taken", n)
	}
}

// P13.2: texts that are no keys, of files that may be but for them.
func TestTextsThatAreNoKeys(t *testing.T) {
	good := textBytes(keyBytes(put("m", 5)))
	wrong := map[string][]byte{
		"no bytes":              {},
		"seven bytes":           make([]byte, 7),
		"73 bytes":              make([]byte, 73),
		"a thousand":            make([]byte, 1000),
		"a kind":                {'a', 2, 1, 0, 0, 0, 0, 0, 0},
		"the greatest kind":     {'a', 255, 1, 0, 0, 0, 0, 0, 0},
		"a kind of a long user": append(bytes.Repeat([]byte("x"), 64), 2, 0, 0, 0, 0, 0, 0, 0),
	}
	ahead := numbers(0, 0, 0, 0, 1, 1, 1, 1)
	reads(t, "keys", slices.Concat(ahead, good, good), adds(api.File{Level: 1, Num: 1, Size: 1, Small: put("m", 5), Large: put("m", 5)}))
	for what, b := range wrong {
		none(t, what+", Small", slices.Concat(ahead, textBytes(b), good))
		none(t, what+", Large", slices.Concat(ahead, good, textBytes(b)))
		none(t, what+", both", slices.Concat(ahead, textBytes(b), textBytes(b)))
	}
	none(t, "a text that is not there", ahead)
	none(t, "a second text that is not there", slices.Concat(ahead, good))
	none(t, "a third text", slices.Concat(ahead, good, good, good))
	for _, n := range []uint64{10, 1 << 31, 1 << 32, 1 << 63, math.MaxUint64} {
		none(t, "a text that says more than there is", slices.Concat(ahead, good, numbers(n), keyBytes(put("m", 5))))
	}
}

// P13.2: Large ahead of Small, in bytes.
func TestOrderInBytes(t *testing.T) {
	ahead := numbers(0, 0, 0, 0, 1, 1, 1, 1)
	for i, small := range rising() {
		for j, large := range rising() {
			b := slices.Concat(ahead, textBytes(keyBytes(small)), textBytes(keyBytes(large)))
			if j < i {
				none(t, "Large ahead", b)
			} else {
				reads(t, "Large not ahead", b, adds(api.File{Level: 1, Num: 1, Size: 1, Small: small, Large: large}))
			}
		}
	}
}

// P13.2: levels, numbers and sizes that Check refuses, as bytes.
func TestNumbersInBytes(t *testing.T) {
	keys := slices.Concat(textBytes(keyBytes(put("a", 1))), textBytes(keyBytes(put("a", 1))))
	for _, c := range []struct {
		level, num, size uint64
		ok               bool
	}{
		{0, 1, 1, true}, {3, topNum, topSize, true},
		{4, 1, 1, false}, {255, 1, 1, false}, {256, 1, 1, false}, {1 << 32, 1, 1, false}, {1<<32 + 1, 1, 1, false}, {1 << 63, 1, 1, false}, {math.MaxUint64, 1, 1, false},
		{0, 0, 1, false}, {0, topNum + 1, 1, false}, {0, 1<<63 + 1, 1, false}, {0, math.MaxUint64, 1, false},
		{0, 1, 0, false}, {0, 1, topSize + 1, false}, {0, 1, 1<<32 + 1, false}, {0, 1, 1<<63 + 1, false}, {0, 1, math.MaxUint64, false},
	} {
		b := slices.Concat(numbers(0, 0, 0, 0, 1, c.level, c.num, c.size), keys)
		g := append(numbers(0, 0, 0, 1, c.level, c.num), 0)
		if c.ok {
			gone := api.Gone{Level: int(c.level), Num: c.num}
			reads(t, "a file", b, adds(api.File{Level: gone.Level, Num: gone.Num, Size: int(c.size), Small: put("a", 1), Large: put("a", 1)}))
			reads(t, "a file that is gone", g, dels(gone))
			continue
		}
		none(t, "a file", b)
		if c.level > 3 || c.num < 1 || c.num > topNum {
			none(t, "a file that is gone", g)
		}
	}
}
