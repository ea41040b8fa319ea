package block_test

import (
	"bytes"
	"math"
	"slices"
	"testing"

	"staddle/api"
)

// P11.1: intervals that may be, and those that may not, ahead of all else that is wrong.
func TestIntervals(t *testing.T) {
	for interval := 1; interval <= 16; interval++ {
		both(t, nil, interval)
		both(t, []api.KV{}, interval)
		both(t, numbered(1), interval)
		both(t, numbered(40), interval)
	}
	bad := [][]api.KV{nil, {}, numbered(1), numbered(40), {put(text(65), 1, "")}, {put("a", 1, text(1001))}, {put("b", 1, ""), put("a", 1, "")}}
	for _, interval := range []int{0, -1, -16, 17, 18, 255, 256, 257, 1<<32 + 1, -1 << 32, 1<<32 - 255, math.MinInt, math.MinInt + 1, math.MaxInt} {
		for _, l := range bad {
			refuses(t, "an interval", l, interval, api.ErrArg)
		}
	}
}

// among is entries with another one at each place where it can stand.
func among(l []api.KV, e api.KV) [][]api.KV {
	var all [][]api.KV
	for i := range len(l) + 1 {
		all = append(all, slices.Insert(slices.Clone(l), i, e))
	}
	return all
}

// P11.1: keys that may not be, by each of their errors, and the greatest that may be.
func TestKeysThatMayNotBe(t *testing.T) {
	for _, c := range []struct {
		key  api.IKey
		want api.Errno
	}{
		{api.IKey{User: text(65), Seq: 1, Kind: 1}, api.ErrKeyLong},
		{api.IKey{User: text(1000), Seq: 1, Kind: 0}, api.ErrKeyLong},
		{api.IKey{User: text(65), Seq: topSeq + 1, Kind: 2}, api.ErrKeyLong},
		{api.IKey{User: "u", Seq: topSeq + 1, Kind: 1}, api.ErrKeySeq},
		{api.IKey{User: "u", Seq: math.MaxUint64, Kind: 0}, api.ErrKeySeq},
		{api.IKey{User: text(64), Seq: topSeq + 1, Kind: -1}, api.ErrKeySeq},
		{api.IKey{User: "u", Seq: 1, Kind: 2}, api.ErrKeyKind},
		{api.IKey{User: "u", Seq: topSeq, Kind: -1}, api.ErrKeyKind},
		{api.IKey{User: "u", Seq: 1, Kind: 257}, api.ErrKeyKind},
		{api.IKey{User: "", Seq: 0, Kind: math.MinInt}, api.ErrKeyKind},
	} {
		for _, interval := range []int{1, 2, 16} {
			for _, value := range []string{"", "v", text(1000), text(1001)} {
				e := api.KV{Key: c.key, Value: value}
				refuses(t, "alone", []api.KV{e}, interval, c.want)
				for _, l := range among(numbered(5), e) {
					// Whatever its place, also where it would not rise: its key is asked ahead of that.
					refuses(t, "among others", l, interval, c.want)
				}
			}
		}
	}
	for _, e := range []api.KV{put(text(64), topSeq, ""), del(text(64), topSeq), put("", 0, ""), del("", 0), put("", topSeq, "v"), put(text(64), 0, "v")} {
		both(t, []api.KV{e}, 1)
	}
}

// P11.1: values of just the greatest length, and of one byte more.
func TestValueLengths(t *testing.T) {
	for _, n := range []int{0, 1, 126, 127, 128, 129, 255, 256, 257, 999, 1000} {
		both(t, []api.KV{put("a", 1, text(n))}, 1)
		both(t, []api.KV{put("a", 1, text(n)), put("b", 1, ""), put("c", 2, text(n))}, 2)
		// A value beside a Delete is nowhere ruled out.
		both(t, []api.KV{{Key: api.IKey{User: "a", Seq: 1, Kind: api.Delete}, Value: text(n)}}, 1)
	}
	for _, n := range []int{1001, 1002, 1 << 12, 1 << 16, 1 << 20} {
		for _, e := range []api.KV{put("u", 1, text(n)), {Key: api.IKey{User: "zz", Seq: 1, Kind: api.Delete}, Value: text(n)}} {
			refuses(t, "alone", []api.KV{e}, 1, api.ErrBatchValue)
			for _, l := range among(numbered(5), e) {
				refuses(t, "among others", l, 2, api.ErrBatchValue)
			}
		}
	}
}

// P11.1: entries that are the same as the one ahead, or ahead of it, within a stretch and at a mark.
func TestOrder(t *testing.T) {
	rising := []api.KV{del("", 0), put("\x00", 9, ""), put("a", 3, "x"), put("a", 2, "y"), del("a", 2), del("a", 1), put("a\x00", 7, ""), put("ab", 1, ""), put("b", topSeq, ""), put("\xff", 1, ""), del("\xff\xff", 1)}
	for interval := 1; interval <= 16; interval++ {
		both(t, rising, interval)
		for i := range rising {
			for k := range i + 1 {
				if k < i {
					refuses(t, "ahead", []api.KV{rising[i], rising[k]}, interval, api.ErrBlockOrder)
				}
				// The entry i is followed by itself, or by one that was there before.
				l := slices.Insert(slices.Clone(rising), i+1, rising[k])
				refuses(t, "again", l, interval, api.ErrBlockOrder)
				l[i+1].Value = "another"
				refuses(t, "again, with another value", l, interval, api.ErrBlockOrder)
			}
		}
	}
	for i := range rising {
		for k := range i {
			both(t, []api.KV{rising[k], rising[i]}, 1)
			both(t, []api.KV{rising[k], rising[i]}, 2)
		}
	}
}

// P11.1, R2: of several errors, the first entry's is told, and of one entry's, its key's, its value's, its order's.
func TestWhichErrorIsFirst(t *testing.T) {
	long, seq, kind := put(text(65), 1, ""), put("b", topSeq+1, ""), api.KV{Key: api.IKey{User: "b", Kind: 7}}
	value, ahead := put("c", 1, text(1001)), put("a", 1, "")
	first := put("b", 1, "")
	for _, c := range []struct {
		l    []api.KV
		want api.Errno
	}{
		{[]api.KV{first, long, seq, kind, value, ahead}, api.ErrKeyLong},
		{[]api.KV{first, seq, kind, value, ahead, long}, api.ErrKeySeq},
		{[]api.KV{first, kind, value, ahead, long, seq}, api.ErrKeyKind},
		{[]api.KV{first, value, ahead, long, seq, kind}, api.ErrBatchValue},
		{[]api.KV{first, ahead, long, seq, kind, value}, api.ErrBlockOrder},
		{[]api.KV{first, first, long}, api.ErrBlockOrder},
		{[]api.KV{first, put("a", 1, text(1001))}, api.ErrBatchValue},
		{[]api.KV{first, {Key: api.IKey{User: "a", Seq: 1, Kind: 2}, Value: text(1001)}}, api.ErrKeyKind},
		{[]api.KV{value, long}, api.ErrBatchValue},
		{[]api.KV{first, {Key: api.IKey{User: "a", Seq: topSeq + 1, Kind: 2}, Value: text(1001)}}, api.ErrKeySeq},
		{[]api.KV{first, {Key: api.IKey{User: "a" + text(64), Seq: topSeq + 1, Kind: 2}, Value: text(1001)}}, api.ErrKeyLong},
	} {
		for interval := 1; interval <= 16; interval++ {
			refuses(t, "several", c.l, interval, c.want)
		}
		refuses(t, "several, and an interval", c.l, 17, api.ErrArg)
	}
}

// P11.1: what two keys share: nothing, a part and all of the user's text, some of the numbers, and all of the key ahead.
func TestSharedBeginnings(t *testing.T) {
	for _, c := range []struct {
		a, b api.KV
		same byte
	}{
		{put("a", 1, ""), put("b", 1, ""), 0},
		{put("ab", 1, "x"), put("ac", 1, "y"), 1},
		{put("", 1, ""), put("a", 1, ""), 0},
		{put("abc", 1, ""), put("abd", 1, ""), 2},
		{put(text(63)+"a", 1, ""), put(text(63)+"b", 1, ""), 63},
		{put("ab", 2, ""), put("ab", 1, ""), 3},
		{put("ab", 1, ""), del("ab", 1), 2},
		{put("ab", 258, ""), put("ab", 2, ""), 4},
		{put("ab", 1<<55, ""), put("ab", 0, ""), 9},
		{put(text(64), 1<<55, ""), put(text(64), 0, ""), 71},
		{put("", 1<<55, ""), put("", 0, ""), 7},
		{put("a", 1, ""), put("a\x01\x01", 1, ""), 3},
		{put("a", 1, ""), put("a\x01\x01\x00\x00\x00\x00\x00\x00", 1, ""), 9},
		{put("a", 1, ""), put("a\x01\x01\x00\x00\x00\x00\x00\x00b", 0, ""), 9},
		{put("", 0, ""), put(string(make([]byte, 64)), 0, ""), 0},
		{del("", 0), del("\x00", 0), 8},
		{del("", 0), del(string(make([]byte, 64)), 0), 8},
	} {
		l := []api.KV{c.a, c.b}
		at := 3 + len(keyBytes(c.a.Key)) + len(c.a.Value)
		for _, interval := range []int{2, 16} {
			b := builds(t, l, interval)
			if b[at] != c.same || int(b[at])+int(b[at+1]) != len(keyBytes(c.b.Key)) {
				t.Errorf("%v: %d shared, %d left, not %d", l, b[at], b[at+1], c.same)
			}
			both(t, l, interval)
		}
		if b := builds(t, l, 1); b[at] != 0 || int(b[at+1]) != len(keyBytes(c.b.Key)) {
			t.Errorf("%v at marks: %d shared, %d left", l, b[at], b[at+1])
		}
		both(t, l, 1)
	}
}

// P11.1: one user at several numbers.
func TestOneUser(t *testing.T) {
	for _, user := range []string{"", "a", text(64), "\x00\xff"} {
		var l []api.KV
		for seq := uint64(600); seq > 0; seq-- {
			l = append(l, put(user, seq, "p"), del(user, seq))
		}
		for _, interval := range []int{1, 2, 3, 15, 16} {
			both(t, l, interval)
		}
	}
}

// P11.1: each place that is a multiple of the interval is a mark, and none but these; so many marks are told, with just a multiple and one more or less.
func TestMarks(t *testing.T) {
	for interval := 1; interval <= 16; interval++ {
		for n := range 3*interval + 3 {
			l := numbered(n)
			b := builds(t, l, interval)
			marks := marksOf(n, interval)
			foot := len(b) - 5
			if b[foot] != byte(interval) || !bytes.Equal(b[foot+1:], []byte{byte(marks), 0, 0, 0}) {
				t.Errorf("%d entries, %d: ends with % x", n, interval, b[foot:])
			}
			at := 0
			for i, e := range l {
				if i%interval == 0 {
					place := b[foot-4*marks+i/interval*4:][:4]
					if b[at] != 0 || !bytes.Equal(place, []byte{byte(at), byte(at >> 8), 0, 0}) {
						t.Errorf("%d entries, %d: the mark %d at %d shares %d, its place is % x", n, interval, i, at, b[at], place)
					}
				} else if b[at] < 2 {
					t.Errorf("%d entries, %d: the entry %d shares %d", n, interval, i, b[at])
				}
				at += 3 + int(b[at+1]) + len(e.Value)
			}
			if at != foot-4*marks {
				t.Errorf("%d entries, %d: the entries end at %d", n, interval, at)
			}
			both(t, l, interval)
		}
	}
}

// P11.1, P11.2: places of one byte up to four, and more marks than two bytes tell.
func TestManyEntries(t *testing.T) {
	var long, short []api.KV
	for i := range 17000 {
		long = append(long, put(string([]byte{byte(i >> 8), byte(i)}), 1, text(1000)))
	}
	for i := range 70000 {
		short = append(short, del(string([]byte{byte(i >> 16), byte(i >> 8), byte(i)}), 0))
	}
	for _, l := range [][]api.KV{long, short} {
		for _, interval := range []int{1, 16} {
			both(t, l, interval)
		}
	}
	if b := builds(t, long, 1); b[len(b)-6] != 1 {
		t.Errorf("the last place is % x", b[len(b)-9:len(b)-5])
	}
	if b := builds(t, short, 1); !bytes.Equal(b[len(b)-4:], []byte{0x70, 0x11, 1, 0}) {
		t.Errorf("the marks are % x", b[len(b)-4:])
	}
}

// R7: users and values of any bytes.
func TestAnyBytes(t *testing.T) {
	var l []api.KV
	for c := range 256 {
		l = append(l, put(string([]byte{byte(c)}), 1, string([]byte{byte(255 - c), 0, 0x80})), put(string([]byte{byte(c), byte(c)}), 1, string([]byte{byte(c)})))
	}
	for _, interval := range []int{1, 2, 7, 16} {
		both(t, l, interval)
	}
}
