package view_test

import (
	"fmt"
	"math"
	"slices"
	"strings"
	"testing"

	"staddle/api"
)

// P17.2, P17.3: of one user, entries with numbers 2, 4, 6, 8: at each number, ahead of all, behind all, at one and hard by it, the greatest one, too.
func TestNumbersOfOneUser(t *testing.T) {
	all := []api.KV{put("u", 8, "8"), del("u", 6), put("u", 4, "4"), put("u", 2, "2")}
	a, z := put("a", 1, "a"), put("z", 1, "z")
	for _, c := range []struct {
		seq  uint64
		want string // of the user: nothing, if it is empty
	}{{1, ""}, {2, "2"}, {3, "2"}, {4, "4"}, {5, "4"}, {6, ""}, {7, ""}, {8, "8"}, {9, "8"}, {api.MaxSeq, "8"}, {api.MaxSeq + 1, "8"}, {1 << 63, "8"}, {math.MaxUint64, "8"}} {
		var want []api.Item
		if c.want != "" {
			want = []api.Item{item("u", c.want)}
		}
		sees(t, "alone", [][]api.KV{all}, c.seq, want...)
		sees(t, "in four lists", [][]api.KV{all[2:3], all[:1], all[3:], all[1:2]}, c.seq, want...)
		among := slices.Concat([]api.Item{item("a", "a")}, want, []api.Item{item("z", "z")})
		sees(t, "among others", [][]api.KV{slices.Concat([]api.KV{a}, all, []api.KV{z})}, c.seq, among...)
		sees(t, "among other lists", [][]api.KV{{a}, {all[0], all[2]}, {all[1], all[3], z}}, c.seq, among...)
		sees(t, "first", [][]api.KV{{z}, all}, c.seq, among[1:]...)
		sees(t, "last", [][]api.KV{all, {a}}, c.seq, among[:len(among)-1]...)
	}
	sees(t, "at 0", [][]api.KV{all}, 0)
	sees(t, "at 0, of 0", [][]api.KV{all, {put("u", 0, "0"), del("v", 0)}}, 0, item("u", "0"))
	sees(t, "the greatest number", [][]api.KV{{put("u", math.MaxUint64, "x"), put("u", 1, "y")}}, math.MaxUint64, item("u", "x"))
	sees(t, "the greatest number", [][]api.KV{{put("u", math.MaxUint64, "x"), put("u", 1, "y")}}, math.MaxUint64-1, item("u", "y"))
}

// P17.2, P17.3: several users whose entries are all above the number, at the beginning, at the end, between.
func TestUsersAboveTheNumber(t *testing.T) {
	above := func(user string) []api.KV { return []api.KV{put(user, 9, "x"), del(user, 8), put(user, 7, "y")} }
	b, d := put("b", 6, "b"), put("d", 1, "d")
	for _, c := range []struct {
		what string
		all  []api.KV
	}{
		{"at the beginning", slices.Concat(above("a"), above("aa"), []api.KV{b, d})},
		{"between", slices.Concat([]api.KV{b}, above("b\x00"), above("c"), above("cc"), []api.KV{d})},
		{"at the end", slices.Concat([]api.KV{b, d}, above("d\x00"), above("e"))},
		{"everywhere", slices.Concat(above(""), above("a"), []api.KV{b}, above("ba"), above("c"), []api.KV{d}, above("da"), above("e"))},
		{"above what is seen", []api.KV{put("b", 9, "x"), put("b", 8, "y"), b, put("d", 7, ""), d}},
	} {
		lists := [][]api.KV{c.all}
		sees(t, c.what, lists, 6, item("b", "b"), item("d", "d"))
		sees(t, c.what, lists, 5, item("d", "d"))
		sees(t, c.what, lists, 0)
	}
	sees(t, "nothing else", [][]api.KV{above("a"), above("b"), above("c")}, 6)
}

// What is seen, P17.3: the first entry that is not above the number tells, whatever stands behind it: a Delete, a Put, or another kind.
func TestKinds(t *testing.T) {
	elder := []api.KV{put("u", 3, "elder"), del("u", 2), put("u", 1, "eldest")}
	others := []api.KV{put("t", 1, "t"), put("v", 1, "v")}
	for _, c := range []struct {
		first api.KV
		seen  bool
	}{
		{put("u", 5, "new"), true}, {put("u", 5, ""), true}, {del("u", 5), false},
		{api.KV{Key: del("u", 5).Key, Value: "beside a delete"}, false},
		{odd("u", 5, 2), false}, {odd("u", 5, -1), false}, {odd("u", 5, math.MaxInt), false}, {odd("u", 5, math.MinInt), false}, {odd("u", 5, 257), false},
	} {
		what := fmt.Sprint(c.first)
		want := []api.Item{item("t", "t"), item("v", "v")}
		if c.seen {
			want = slices.Insert(want, 1, item("u", c.first.Value))
		}
		for _, above := range [][]api.KV{nil, {put("u", 9, "above")}, {del("u", 9), put("u", 7, "above")}, {odd("u", 6, 3)}} {
			for _, lists := range [][][]api.KV{
				{others, slices.Concat(above, []api.KV{c.first}, elder)},
				{others, elder, {c.first}, above},
				{above, {c.first}, others, elder},
			} {
				sees(t, what, lists, 5, want...)
			}
		}
		sees(t, what+", one elder number", [][]api.KV{others, {c.first}, elder}, 4, item("t", "t"), item("u", "elder"), item("v", "v"))
		sees(t, what+", two", [][]api.KV{others, {c.first}, elder}, 2, item("t", "t"), item("v", "v"))
	}
}

// What is seen: of entries with the same number the greater kind is the first.
func TestKindsOfOneNumber(t *testing.T) {
	sees(t, "a put ahead of a delete", [][]api.KV{{del("u", 5)}, {put("u", 5, "x")}}, 5, item("u", "x"))
	sees(t, "another kind ahead of a put", [][]api.KV{{put("u", 5, "x")}, {odd("u", 5, 2)}}, 5)
	sees(t, "another kind behind a put", [][]api.KV{{odd("u", 5, -3)}, {put("u", 5, "x")}}, 5, item("u", "x"))
	sees(t, "in one list", [][]api.KV{{odd("u", 5, 2), put("u", 5, "x"), del("u", 5), put("u", 4, "y")}}, 5)
	sees(t, "in one list", [][]api.KV{{put("u", 5, "x"), del("u", 5), put("u", 4, "y")}}, 5, item("u", "x"))
	sees(t, "in one list", [][]api.KV{{odd("u", 5, 2), put("u", 5, "x"), del("u", 5), put("u", 4, "y")}}, 4, item("u", "y"))
}

// P17.2: a user's first entry of all, with the greatest number and kind, is looked at by each call.
func TestGreatestNumberAndKind(t *testing.T) {
	for _, kind := range []int{2, 1 << 40, math.MaxInt} {
		lists := [][]api.KV{{put("t", 1, "t"), odd("t\x00", math.MaxUint64, kind), put("t\x00", math.MaxUint64, "x"), put("u", 1, "u")}}
		sees(t, "behind another kind", lists, math.MaxUint64, item("t", "t"), item("u", "u"))
		sees(t, "behind another kind", lists, math.MaxUint64-1, item("t", "t"), item("u", "u"))
		v := fresh(t, math.MaxUint64, lists...)
		v.Seek("t\x00")
		isAt(t, "Seek", v, item("u", "u"))
		v.Prev()
		isAt(t, "Seek, Prev", v, item("t", "t"))
		v.Next()
		isAt(t, "Seek, Prev, Next", v, item("u", "u"))
	}
}

// What is seen, P17.3: of like keys in several lists the one in the list ahead is seen; a user comes once.
func TestLikeKeys(t *testing.T) {
	lists := [][]api.KV{
		{put("a", 2, "0"), put("b", 2, "0"), put("b", 1, "0"), put("d", 1, "0")},
		{put("b", 2, "1"), put("c", 1, "1"), del("d", 1)},
		{put("a", 2, "2"), put("b", 2, "2"), del("b", 2), put("e", 1, "2")},
		{put("b", 3, "3"), put("b", 2, "3")},
	}
	sees(t, "like keys", lists, 3, item("a", "0"), item("b", "3"), item("c", "1"), item("d", "0"), item("e", "2"))
	sees(t, "like keys", lists, 2, item("a", "0"), item("b", "0"), item("c", "1"), item("d", "0"), item("e", "2"))
	sees(t, "like keys", lists, 1, item("b", "0"), item("c", "1"), item("d", "0"), item("e", "2"))
	slices.Reverse(lists)
	sees(t, "turned round", lists, 3, item("a", "2"), item("b", "3"), item("c", "1"), item("d", "0"), item("e", "2"))
	sees(t, "turned round", lists, 2, item("a", "2"), item("b", "3"), item("c", "1"), item("d", "0"), item("e", "2"))
	for n := 1; n <= 40; n++ {
		var same [][]api.KV
		for i := range n {
			same = append(same, []api.KV{put("k", 5, name(i)), del("l", 5), put("m", 5, name(i)), put("m", 4, "elder")})
		}
		sees(t, "the same keys in each list", same, 5, item("k", name(0)), item("m", name(0)))
		sees(t, "the same keys in each list", same, 4, item("m", "elder"))
	}
}

// P17.2, P17.3: users that are beginnings of one another, the empty one among them: each by itself, in the order of bytes.
func TestBeginnings(t *testing.T) {
	users := []string{"", "\x00", "\x00\x00", "\x00\x01", "\x01", "a", "a\x00", "a\x00\x00", "a\x00a", "a\x01", "aa", "aaa", "ab", "b", "\x7f", "\x80", "\xc3\xa4", "\xff", "\xff\x00", "\xff\xff"}
	var all []api.KV
	var want, even []api.Item
	for i, u := range users {
		e := put(u, 4, u+" 4")
		if i%2 == 1 {
			e = del(u, 4)
		} else {
			even = append(even, item(u, u+" 4"))
		}
		all = append(all, put(u, 6, "above"), e, put(u, 2, u+" 2"))
		want = append(want, item(u, u+" 2"))
	}
	var lists [3][]api.KV
	for i, e := range all {
		lists[i*i%3] = append(lists[i*i%3], e)
	}
	for _, l := range [][][]api.KV{{all}, lists[:]} {
		sees(t, "beginnings", l, 3, want...)
		sees(t, "beginnings, some deleted", l, 5, even...)
		sees(t, "beginnings, none", l, 1)
	}
}

// P17.2: empty values are seen as others are.
func TestEmptyValues(t *testing.T) {
	lists := [][]api.KV{{put("", 1, ""), put("a", 2, ""), put("a", 1, "x"), put("b", 2, "y"), put("b", 1, "")}}
	sees(t, "empty values", lists, 2, item("", ""), item("a", ""), item("b", "y"))
	sees(t, "empty values", lists, 1, item("", ""), item("a", "x"), item("b", ""))
}

// P17.3: what is put and deleted with numbers above does not matter, wherever it stands.
func TestAboveDoesNotMatter(t *testing.T) {
	lists := mixedLists()
	for seq := range uint64(12) {
		want := seen(lists, seq)
		var below [][]api.KV
		for _, l := range lists {
			below = append(below, slices.DeleteFunc(slices.Clone(l), func(e api.KV) bool { return e.Key.Seq > seq }))
		}
		sees(t, "what is not above", below, seq, want...)
		var above []api.KV
		for _, u := range []string{"", "a", "ab", "b", "c", "f", "g", "h", "k", "zz"} {
			above = append(above, put(u, math.MaxUint64, "above"), del(u, seq+20), odd(u, seq+19, 5), put(u, seq+18, "above"))
		}
		for place := range len(lists) + 1 {
			sees(t, "more above", slices.Insert(slices.Clone(lists), place, above), seq, want...)
		}
	}
}

// P17.3: keys rise strictly, none that was deleted is seen, and none that was put is left out, at each number.
func TestAllThatIsSeen(t *testing.T) {
	lists := mixedLists()
	for seq := range uint64(12) {
		v := fresh(t, seq, lists...)
		last, found := "", map[string]string{}
		for v.First(); ; v.Next() {
			i, ok := v.At()
			if !ok {
				break
			}
			if len(found) > 0 && strings.Compare(last, i.Key) >= 0 {
				t.Fatalf("%q behind %q", i.Key, last)
			}
			last, found[i.Key] = i.Key, "is "+i.Value
		}
		put := map[string]string{}
		for at := uint64(0); at <= seq; at++ {
			for _, e := range slices.Concat(lists...) {
				if e.Key.Seq != at {
					continue
				}
				if delete(put, e.Key.User); e.Key.Kind == api.Put {
					put[e.Key.User] = "is " + e.Value
				}
			}
		}
		if fmt.Sprint(put) != fmt.Sprint(found) {
			t.Fatalf("at %d: %v; want %v", seq, found, put)
		}
	}
}
