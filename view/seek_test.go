package view_test

import (
	"strings"
	"testing"

	"staddle/api"
	"staddle/view"
)

// sought are users, and, of mixedLists at 6, the key that Seek finds for each.
var sought = []struct{ user, at6 string }{
	// Ahead of all.
	{"", "c"}, {"\x00", "c"}, {"A", "c"},
	// Deleted ones, and those of another kind.
	{"a", "c"}, {"a\x00", "c"}, {"b", "c"}, {"e", "f"}, {"g", ""}, {"k", ""},
	// Those that are above the number.
	{"h", ""}, {"j", ""},
	// Between.
	{"a\x00\x00", "c"}, {"aa", "c"}, {"bz", "c"}, {"c\x00", "d"}, {"cc", "d"}, {"d\x00", "f"}, {"ee", "f"},
	// Those that are seen.
	{"c", "c"}, {"d", "d"}, {"f", "f"},
	// Behind all.
	{"f\x00", ""}, {"ff", ""}, {"kk", ""}, {"z", ""}, {"\xff", ""}, {strings.Repeat("z", 100000), ""},
}

// values are the values of what is seen of mixedLists at 6.
func values() map[string]string { return map[string]string{"c": "c3", "d": "d1", "f": "f5"} }

// seeks tells a fault if Seek goes elsewhere; twice, so that it is sought from there, too.
func seeks(t *testing.T, what string, v *view.View, user, want string) {
	t.Helper()
	for range 2 {
		v.Seek(user)
		if what += ", Seek " + short(user); want == "" {
			atNone(t, what, v)
		} else {
			isAt(t, what, v, item(want, values()[want]))
		}
	}
}

// P17.2: Seek ahead of all, behind all, between, at a key that is seen, and at one that is not; ahead of any call, from each place, behind a Next and behind a Prev.
func TestSeek(t *testing.T) {
	all := seen(mixedLists(), 6)
	for _, c := range sought {
		seeks(t, "first call", fresh(t, 6, mixedLists()...), c.user, c.at6)
		for place := range all {
			for what, way := range waysTo(place, all) {
				v := fresh(t, 6, mixedLists()...)
				way(v)
				seeks(t, what, v, c.user, c.at6)
				way(v)
				v.Next()
				seeks(t, what+", Next", v, c.user, c.at6)
				way(v)
				v.Prev()
				seeks(t, what+", Prev", v, c.user, c.at6)
			}
		}
	}
}

// P17.2: Next and Prev behind a Seek go to what is beside it, and turn round there.
func TestBesideWhatIsSought(t *testing.T) {
	lists := mixedLists()
	for seq := range uint64(13) {
		v, all := fresh(t, seq, lists...), seen(lists, seq)
		for _, c := range sought {
			for _, way := range [][]string{
				{"Next", "Next", "Prev", "Prev", "Prev"}, {"Prev", "Next", "Next", "Prev", "Prev"}, {"Prev", "Prev", "Next", "Next", "Next"}, {"Next", "Prev", "Prev", "Next", "Next"},
			} {
				l := &line{all, -1}
				v.Seek(c.user)
				l.seek(c.user)
				what := "Seek " + short(c.user)
				asLine(t, func() string { return what }, v, l)
				for _, step := range way {
					if step == "Next" {
						v.Next()
						l.next()
					} else {
						v.Prev()
						l.prev()
					}
					what += ", " + step
					asLine(t, func() string { return what }, v, l)
				}
			}
		}
	}
}

// P17.2: a key that was deleted is passed over by Seek, and is found again at a number where it is not.
func TestSeekDeleted(t *testing.T) {
	lists := [][]api.KV{{put("a", 1, "a"), del("b", 4), put("b", 2, "b"), put("c", 1, "c")}, {put("b", 6, "B")}}
	for seq, want := range map[uint64]api.Item{0: {}, 1: item("c", "c"), 2: item("b", "b"), 3: item("b", "b"), 4: item("c", "c"), 5: item("c", "c"), 6: item("b", "B")} {
		v := fresh(t, seq, lists...)
		v.Seek("b")
		if seq == 0 {
			atNone(t, "nothing is seen", v)
			continue
		}
		isAt(t, "Seek", v, want)
		v.Prev()
		isAt(t, "Seek, Prev", v, item("a", "a"))
		v.Next()
		isAt(t, "Seek, Prev, Next", v, want)
	}
}

// P17.2: each of many keys is found, and what is hard by it, too.
func TestSeekEach(t *testing.T) {
	const n = 2000
	for _, count := range []int{1, 2, 7, 50} {
		lists := make([][]api.KV, count)
		var all []api.Item
		for i := range n {
			e := put(name(i), uint64(i%3+1), name(i))
			if i%5 == 0 {
				e = del(name(i), 1)
			} else if i%3 < 2 {
				all = append(all, item(name(i), name(i)))
			}
			lists[i*i%count] = append(lists[i*i%count], e)
		}
		v := fresh(t, 2, lists...)
		for place, i := range all {
			v.Seek(i.Key)
			isAt(t, "Seek", v, i)
			v.Seek(i.Key[:3] + string(i.Key[3]-1) + "z")
			isAt(t, "Seek a little ahead", v, i)
			v.Seek(i.Key + "\x00")
			if place+1 < len(all) {
				isAt(t, "Seek a little behind", v, all[place+1])
				v.Prev()
				isAt(t, "Prev", v, i)
			} else {
				atNone(t, "Seek behind all", v)
			}
		}
	}
}
