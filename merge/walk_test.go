package merge_test

import (
	"slices"
	"strconv"
	"strings"
	"testing"

	"staddle/api"
	"staddle/merge"
)

// call is one call that goes somewhere.
type call struct {
	name string
	do   func(x *merge.Iter)
}

// calls are all calls, Seek with each of these keys.
func calls(keys ...api.IKey) []call {
	out := []call{
		{"First", (*merge.Iter).First},
		{"Last", (*merge.Iter).Last},
		{"Next", (*merge.Iter).Next},
		{"Prev", (*merge.Iter).Prev},
	}
	for _, k := range keys {
		name := "Seek " + strconv.Quote(k.User[:min(len(k.User), 20)]) + " " + strconv.FormatUint(k.Seq, 10) + " " + strconv.Itoa(k.Kind)
		out = append(out, call{name, func(x *merge.Iter) { x.Seek(k) }})
	}
	return out
}

// likeLists are lists that share keys, two and all of them.
func likeLists() [][]api.KV {
	return [][]api.KV{
		list("0", put("a", 2), put("b", 2), put("b", 1), put("d", 1)),
		list("1", put("b", 2), put("c", 1)),
		list("2", put("a", 2), put("b", 2), del("b", 2), put("e", 1)),
		list("3", put("b", 2)),
	}
}

// likeEntries are all entries of these.
func likeEntries() []api.KV {
	return []api.KV{
		{Key: put("a", 2), Value: "0"}, {Key: put("a", 2), Value: "2"},
		{Key: put("b", 2), Value: "0"}, {Key: put("b", 2), Value: "1"}, {Key: put("b", 2), Value: "2"}, {Key: put("b", 2), Value: "3"},
		{Key: del("b", 2), Value: "2"}, {Key: put("b", 1), Value: "0"},
		{Key: put("c", 1), Value: "1"}, {Key: put("d", 1), Value: "0"}, {Key: put("e", 1), Value: "2"},
	}
}

// "Types": of like keys those of an earlier list are first, on and back.
func TestLikeKeys(t *testing.T) {
	holds(t, "shared keys", likeLists(), likeEntries()...)
	var lists [][]api.KV
	var want []api.KV
	for i := range 30 {
		l := list(strconv.Itoa(i), put("a", 1))
		lists = append(lists, l)
		want = append(want, l...)
	}
	holds(t, "thirty lists of one key", lists, want...)
	slices.Reverse(lists)
	slices.Reverse(want)
	holds(t, "and in the other order", lists, want...)
}

// "Types": all entries are by users byte by byte, then the greater number first, then the greater kind.
func TestOrder(t *testing.T) {
	want := list("x", put("", 1), put("B", 1), put("a", 9), del("a", 9), put("a", 8), put("a\x00", 99), put("ab", 10), put("ab", 9), put("b", 1), put("\xc3\xa9", 1), put("\xff", 1))
	var each [][]api.KV
	for i := range want {
		each = append(each, want[i:i+1])
	}
	holds(t, "a list for each", each, want...)
	slices.Reverse(each)
	holds(t, "from behind", each, want...)
	holds(t, "in one list", [][]api.KV{want}, want...)
}

// P16.2: at none, each call is as if it were the first one: Next and Prev go nowhere, the others to their places.
func TestFromNone(t *testing.T) {
	all := likeEntries()
	ways := map[string]func(x *merge.Iter){
		"ahead of any call":      func(x *merge.Iter) {},
		"behind the last":        func(x *merge.Iter) { x.Last(); x.Next() },
		"ahead of the first":     func(x *merge.Iter) { x.First(); x.Prev() },
		"far behind the last":    func(x *merge.Iter) { x.Last(); x.Next(); x.Next(); x.Next() },
		"far ahead of the first": func(x *merge.Iter) { x.First(); x.Prev(); x.Prev(); x.Prev() },
		"sought behind all":      func(x *merge.Iter) { x.Seek(put("f", 1)) },
		"on through all": func(x *merge.Iter) {
			for x.First(); ; x.Next() {
				if _, ok := x.At(); !ok {
					return
				}
			}
		},
		"back through all": func(x *merge.Iter) {
			for x.Last(); ; x.Prev() {
				if _, ok := x.At(); !ok {
					return
				}
			}
		},
	}
	for what, way := range ways {
		for _, c := range []struct {
			name string
			do   func(x *merge.Iter)
			want api.KV
		}{
			{"First", (*merge.Iter).First, all[0]},
			{"Last", (*merge.Iter).Last, all[10]},
			{"Seek", func(x *merge.Iter) { x.Seek(put("b", 2)) }, all[2]},
			{"Seek between", func(x *merge.Iter) { x.Seek(del("c", 2)) }, all[8]},
		} {
			for _, steps := range []string{"", "n", "p", "np", "pn", "nnpp", "ppnn"} {
				x := fresh(t, likeLists()...)
				way(x)
				atNone(t, what, x)
				for _, step := range steps {
					if step == 'n' {
						x.Next()
					} else {
						x.Prev()
					}
					atNone(t, what+", "+steps, x)
				}
				c.do(x)
				isAt(t, what+", "+steps+", "+c.name, x, c.want)
			}
		}
	}
}

// P16.2: First and Last from each place, whichever way it went last.
func TestFirstAndLastFromEachPlace(t *testing.T) {
	all := likeEntries()
	x := fresh(t, likeLists()...)
	for place := range all {
		for what, way := range waysTo(place, len(all)) {
			way(x)
			isAt(t, what, x, all[place])
			x.First()
			isAt(t, what+", First", x, all[0])
			x.Prev()
			atNone(t, what+", ahead of the first", x)
			way(x)
			x.Last()
			isAt(t, what+", Last", x, all[len(all)-1])
			x.Next()
			atNone(t, what+", behind the last", x)
			way(x)
			x.First()
			x.First()
			x.Next()
			isAt(t, what+", First twice, Next", x, all[1])
			way(x)
			x.Last()
			x.Last()
			x.Prev()
			isAt(t, what+", Last twice, Prev", x, all[len(all)-2])
		}
	}
}

// waysTo are ways to one of n entries.
func waysTo(place, n int) map[string]func(x *merge.Iter) {
	times := func(n int, do func()) {
		for range n {
			do()
		}
	}
	return map[string]func(x *merge.Iter){
		"on from the first":      func(x *merge.Iter) { x.First(); times(place, x.Next) },
		"back from the last":     func(x *merge.Iter) { x.Last(); times(n-1-place, x.Prev) },
		"on past it and back":    func(x *merge.Iter) { x.First(); times(n-1, x.Next); times(n-1-place, x.Prev) },
		"back past it and on":    func(x *merge.Iter) { x.Last(); times(n-1, x.Prev); times(place, x.Next) },
		"sought, and on":         func(x *merge.Iter) { x.Seek(api.IKey{Seq: 1 << 60}); times(place, x.Next) },
		"on, and there and back": func(x *merge.Iter) { x.First(); times(place, func() { x.Next(); x.Prev(); x.Next() }) },
		"back, and there and back": func(x *merge.Iter) {
			x.Last()
			times(n-1-place, func() { x.Prev(); x.Next(); x.Prev() })
		},
	}
}

// P16.2, P16.3: turning round at each entry, so often and so far: Next behind Prev, and Prev behind Next, is where it was, where both are somewhere.
func TestTurning(t *testing.T) {
	for name, lists := range map[string][][]api.KV{
		"like keys":  likeLists(),
		"one list":   {likeLists()[0]},
		"one key":    {list("0", put("a", 1)), list("1", put("a", 1)), list("2", put("a", 1))},
		"in a row":   {list("0", put("a", 1), put("b", 1)), list("1", put("c", 1), put("d", 1)), nil, list("2", put("e", 1))},
		"in turns":   {list("0", put("a", 1), put("c", 1), put("e", 1)), list("1", put("b", 1), put("d", 1), put("f", 1))},
		"round one":  {list("0", put("a", 1), put("z", 1)), list("1", put("b", 1), put("c", 1), put("d", 1))},
		"one entry":  {list("0", put("a", 1))},
		"two lists":  exampleLists(),
		"long users": {list("0", put(strings.Repeat("a", 64), 1)), list("1", put(strings.Repeat("a", 63), 1), put(strings.Repeat("a", 64), 1))},
	} {
		all := sorted(lists)
		x := fresh(t, lists...)
		for place := range all {
			for what, way := range waysTo(place, len(all)) {
				what = name + ", " + what
				for far := 1; far <= len(all); far++ {
					way(x)
					turnsRound(t, what, x, all, place, far, x.Next, x.Prev, 1)
					way(x)
					turnsRound(t, what, x, all, place, far, x.Prev, x.Next, -1)
				}
			}
		}
	}
}

// turnsRound goes so far the one way and the other, twice.
func turnsRound(t *testing.T, what string, x *merge.Iter, all []api.KV, place, far int, there, back func(), step int) {
	t.Helper()
	end := place + far*step
	if end < 0 || end >= len(all) {
		return
	}
	for range 2 {
		for at := place; at != end; at += step {
			isAt(t, what, x, all[at])
			there()
		}
		isAt(t, what+", there", x, all[end])
		for at := end; at != place; at -= step {
			isAt(t, what, x, all[at])
			back()
		}
		isAt(t, what+", back", x, all[place])
	}
}

// P16.3: all entries come, each once, from wherever it went ahead of First and Last.
func TestAllFromEachPlace(t *testing.T) {
	all := likeEntries()
	x := fresh(t, likeLists()...)
	for place := range all {
		for what, way := range waysTo(place, len(all)) {
			way(x)
			goesOn(t, what, x, all)
			way(x)
			goesBack(t, what, x, all)
			// And those from a place on, whichever way it came there.
			way(x)
			for _, e := range all[place:] {
				isAt(t, what+", on", x, e)
				x.Next()
			}
			atNone(t, what+", on", x)
			way(x)
			for at := place; at >= 0; at-- {
				isAt(t, what+", back", x, all[at])
				x.Prev()
			}
			atNone(t, what+", back", x)
		}
	}
}
