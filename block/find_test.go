package block_test

import (
	"math"
	"testing"

	"staddle/api"
	"staddle/block"
)

// ahead tells whether a key is ahead of another, as the document orders them.
func ahead(a, b api.IKey) bool {
	if a.User != b.User {
		return a.User < b.User
	}
	if a.Seq != b.Seq {
		return a.Seq > b.Seq
	}
	return a.Kind > b.Kind
}

// findPlainly is the place that the document tells, by going through all entries.
func findPlainly(l []api.KV, k api.IKey) int {
	for i, e := range l {
		if !ahead(e.Key, k) {
			return i
		}
	}
	return len(l)
}

// finds tells a fault if a key is found elsewhere than told.
func finds(t testing.TB, x *block.Block, k api.IKey, want int) {
	t.Helper()
	if n := x.Find(k); n != want {
		t.Errorf("Find(%v) of %d entries: %d, not %d", k, x.Len(), n, want)
	}
}

// around are keys at an entry's, just ahead of it and just behind.
func around(k api.IKey) []api.IKey {
	all := []api.IKey{k, {User: k.User, Seq: k.Seq, Kind: 1 - k.Kind}, {User: k.User, Seq: k.Seq + 1, Kind: k.Kind}, {User: k.User + "\x00", Seq: topSeq, Kind: 1}, {User: k.User, Seq: topSeq, Kind: 1}, {User: k.User}}
	if k.Seq > 0 {
		all = append(all, api.IKey{User: k.User, Seq: k.Seq - 1, Kind: k.Kind})
	}
	if n := len(k.User); n > 0 {
		all = append(all, api.IKey{User: k.User[:n-1], Seq: k.Seq, Kind: k.Kind})
	}
	return all
}

// P11.3: each entry's key is found at its place, in blocks of all lengths around the marks; those between, ahead and behind likewise.
func TestFind(t *testing.T) {
	var all []api.KV
	for _, user := range []string{"b", "b\x00", "ba", "bb", "c", "cc", "d", "dd", "f", "g"} {
		all = append(all, put(user, 9, "x"), put(user, 5, ""), del(user, 5), del(user, 2))
	}
	for interval := 1; interval <= 16; interval++ {
		for n := range len(all) + 1 {
			l := all[:n]
			x := opens(t, builds(t, l, interval))
			for i, e := range all {
				finds(t, x, e.Key, min(i, n))
				for _, k := range around(e.Key) {
					finds(t, x, k, findPlainly(l, k))
				}
			}
			for _, k := range []api.IKey{{}, {User: "", Seq: topSeq, Kind: 1}, {User: "a", Seq: 1}, {User: "b", Seq: 10}, {User: "b", Seq: 9, Kind: 1}} {
				finds(t, x, k, 0)
			}
			for _, k := range []api.IKey{{User: "g"}, {User: "g", Seq: 1, Kind: 1}, {User: "h", Seq: 9, Kind: 1}, {User: "\xff\xff"}} {
				finds(t, x, k, n)
			}
		}
	}
}

// P11.3: keys that may not be are held against entries too.
func TestFindOfKeysThatMayNotBe(t *testing.T) {
	l := []api.KV{put("a", topSeq, ""), put("a", 1, ""), del("a", 1), put("a", 0, ""), del("a", 0), put(text(64), 1, ""), del("u", 1)}
	for _, interval := range []int{1, 2, 3, 16} {
		x := opens(t, builds(t, l, interval))
		for _, user := range []string{"", "a", "b", text(63), text(64), text(65), text(5000), "u", "\xff"} {
			for _, seq := range []uint64{0, 1, 2, topSeq, topSeq + 1, math.MaxUint64} {
				for _, kind := range []int{0, 1, 2, -1, 256, 257, math.MinInt, math.MaxInt} {
					k := api.IKey{User: user, Seq: seq, Kind: kind}
					finds(t, x, k, findPlainly(l, k))
				}
			}
		}
	}
}

// P11.3: Find goes by keys' order, not by that of their bytes: a number's lowest byte stands first there.
func TestFindIsByKeys(t *testing.T) {
	l := []api.KV{put("a", 511, ""), put("a", 256, ""), put("a", 255, ""), put("a", 3, ""), put("a", 1, ""), put("a\x00", 4, ""), put("a\x01", 1, "")}
	for interval := 1; interval <= 8; interval++ {
		x := opens(t, builds(t, l, interval))
		for seq := range uint64(600) {
			for _, user := range []string{"a", "a\x00", "a\x01"} {
				k := api.IKey{User: user, Seq: seq, Kind: int(seq % 2)}
				finds(t, x, k, findPlainly(l, k))
			}
		}
	}
}

// P11.3: places that there are not.
func TestAt(t *testing.T) {
	for interval := 1; interval <= 16; interval++ {
		for _, n := range []int{0, 1, 2, 15, 16, 17, 31, 32, 33} {
			l := numbered(n)
			x := opens(t, builds(t, l, interval))
			holds(t, x, l)
			for _, i := range []int{-interval, -n, n + interval, marksOf(n, interval) * interval, 1 << 32, -1 << 32} {
				if e, err := x.At(i); (i < 0 || i >= n) && (e != (api.KV{}) || err != api.ErrArg) {
					t.Errorf("At(%d) of %d: %v, %d", i, n, e, err)
				}
			}
		}
	}
}
