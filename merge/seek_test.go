package merge_test

import (
	"math"
	"strings"
	"testing"

	"staddle/api"
)

// seeks are keys, and the places among likeEntries of the first one that is not ahead of each; 11: there is none.
var seeks = []struct {
	key  api.IKey
	want int
}{
	// Ahead of all.
	{put("", 0), 0}, {api.IKey{User: "", Seq: math.MaxUint64, Kind: math.MaxInt}, 0}, {put("A", 1), 0}, {put("a", 3), 0}, {put("a", math.MaxUint64), 0}, {api.IKey{User: "a", Seq: 2, Kind: 2}, 0},
	// Keys of several lists.
	{put("a", 2), 0}, {put("b", 2), 2},
	// Between.
	{del("a", 2), 2}, {put("a", 1), 2}, {put("a", 0), 2}, {api.IKey{User: "a", Seq: 0, Kind: math.MinInt}, 2}, {put("a\x00", 9), 2}, {put("aa", 0), 2}, {put("b", 3), 2}, {api.IKey{User: "b", Seq: 2, Kind: 5}, 2},
	{api.IKey{User: "b", Seq: 2, Kind: -1}, 7}, {del("b", 1), 8}, {put("b", 0), 8}, {put("b\x00", 9), 8}, {put("c", 2), 8}, {del("c", 1), 9}, {put("cc", 9), 9}, {put("d", 0), 10}, {put("e", 7), 10},
	// Keys of one list.
	{del("b", 2), 6}, {put("b", 1), 7}, {put("c", 1), 8}, {put("d", 1), 9}, {put("e", 1), 10},
	// Behind all.
	{del("e", 1), 11}, {put("e", 0), 11}, {put("e\x00", 9), 11}, {put("f", 1), 11}, {put("\xff", math.MaxUint64), 11}, {put(strings.Repeat("f", 100000), 1), 11},
}

// P16.2: Seek ahead of all, behind all, between, and at keys of one list and of several; ahead of any call, and from each place, whichever way it came there.
func TestSeek(t *testing.T) {
	all := likeEntries()
	for _, c := range seeks {
		seeks := func(what string, do func(api.IKey), at func() (api.KV, bool)) {
			t.Helper()
			do(c.key)
			e, ok := at()
			if c.want == len(all) {
				if ok || e != (api.KV{}) {
					t.Errorf("%s, Seek %s: at %v, %v", what, short(c.key), short(e), ok)
				}
			} else if !ok || e != all[c.want] {
				t.Errorf("%s, Seek %s: at %v, %v; want %v", what, short(c.key), short(e), ok, short(all[c.want]))
			}
		}
		x := fresh(t, likeLists()...)
		seeks("first call", x.Seek, x.At)
		seeks("again", x.Seek, x.At)
		for place := range all {
			for what, way := range waysTo(place, len(all)) {
				way(x)
				seeks(what, x.Seek, x.At)
				way(x)
				x.Next()
				seeks(what+", Next", x.Seek, x.At)
				way(x)
				x.Prev()
				seeks(what+", Prev", x.Seek, x.At)
			}
		}
	}
}

// P16.2: Next and Prev behind a Seek go to what is beside it, and turn round there.
func TestBesideWhatIsSought(t *testing.T) {
	all := likeEntries()
	x := fresh(t, likeLists()...)
	for _, c := range seeks {
		if c.want == len(all) {
			continue
		}
		for _, way := range [][]struct {
			name string
			do   func()
			by   int
		}{
			{{"Next", x.Next, 1}, {"Next", x.Next, 1}, {"Prev", x.Prev, -1}, {"Prev", x.Prev, -1}, {"Prev", x.Prev, -1}},
			{{"Prev", x.Prev, -1}, {"Next", x.Next, 1}, {"Next", x.Next, 1}, {"Prev", x.Prev, -1}, {"Prev", x.Prev, -1}},
			{{"Prev", x.Prev, -1}, {"Prev", x.Prev, -1}, {"Next", x.Next, 1}, {"Next", x.Next, 1}, {"Next", x.Next, 1}},
		} {
			x.Seek(c.key)
			at, what := c.want, "Seek "+c.key.User
			for _, step := range way {
				isAt(t, what, x, all[at])
				step.do()
				at += step.by
				what += ", " + step.name
				if at < 0 || at == len(all) {
					atNone(t, what, x)
					break
				}
			}
		}
	}
}

// P16.2: Seek that finds none leaves it at none: Next and Prev stay there.
func TestSeekBehindAll(t *testing.T) {
	x := fresh(t, likeLists()...)
	for _, step := range []func(){x.Next, x.Prev} {
		x.First()
		x.Seek(put("f", 1))
		atNone(t, "Seek", x)
		step()
		atNone(t, "behind it", x)
		step()
		atNone(t, "behind it", x)
	}
	x.Seek(put("e", 1))
	isAt(t, "Seek of the last one", x, likeEntries()[10])
	x.Next()
	atNone(t, "Next", x)
}

// P16.2: each of many keys, of one list and of many, is found, and what is hard by it, too.
func TestSeekEach(t *testing.T) {
	const n = 3000
	for _, count := range []int{1, 2, 7, 100} {
		lists := make([][]api.KV, count)
		var all []api.KV
		for i := range n {
			e := api.KV{Key: put(name(i/3), uint64(9-i%3*2)), Value: name(i)}
			all = append(all, e)
			lists[i*i%count] = append(lists[i*i%count], e)
		}
		x := fresh(t, lists...)
		for i, e := range all {
			k := e.Key
			x.Seek(k)
			isAt(t, "Seek", x, e)
			x.Seek(put(k.User, k.Seq+1))
			isAt(t, "Seek a little ahead", x, e)
			x.Seek(del(k.User, k.Seq))
			if i+1 < n {
				isAt(t, "Seek a little behind", x, all[i+1])
				x.Prev()
				isAt(t, "Prev", x, e)
			} else {
				atNone(t, "Seek behind all", x)
			}
		}
	}
}
