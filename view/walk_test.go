package view_test

import (
	"testing"

	"staddle/api"
	"staddle/view"
)

// mixedLists have users that are seen, at some numbers, with others on either side that are not.
func mixedLists() [][]api.KV {
	return [][]api.KV{
		{put("a", 2, "a2"), put("b", 9, "b9"), del("b", 4), put("d", 1, "d1"), put("f", 5, "f5"), put("k", 1, "k1")},
		{del("a", 6), del("a\x00", 3), put("b", 2, "b2"), del("d", 10), put("d", 7, "d7"), del("g", 5), put("h", 8, "h8"), del("k", 3)},
		{put("a", 8, "a8"), put("c", 3, "c3"), odd("e", 4, 2), put("e", 3, "e3"), put("g", 1, "g1"), put("j", 11, "j11")},
	}
}

// waysTo are ways to one of n keys that are seen.
func waysTo(place int, all []api.Item) map[string]func(v *view.View) {
	times := func(n int, do func()) {
		for range n {
			do()
		}
	}
	n := len(all)
	return map[string]func(v *view.View){
		"on from the first":      func(v *view.View) { v.First(); times(place, v.Next) },
		"back from the last":     func(v *view.View) { v.Last(); times(n-1-place, v.Prev) },
		"on past it and back":    func(v *view.View) { v.First(); times(n-1, v.Next); times(n-1-place, v.Prev) },
		"back past it and on":    func(v *view.View) { v.Last(); times(n-1, v.Prev); times(place, v.Next) },
		"sought":                 func(v *view.View) { v.Seek(all[place].Key) },
		"sought, and on":         func(v *view.View) { v.Seek(""); times(place, v.Next) },
		"on, and there and back": func(v *view.View) { v.First(); times(place, func() { v.Next(); v.Prev(); v.Next() }) },
		"back, and there and back": func(v *view.View) {
			v.Last()
			times(n-1-place, func() { v.Prev(); v.Next(); v.Prev() })
		},
	}
}

// everyPlace does something with a View at each key that is seen, at each number, whichever way it came there.
func everyPlace(t *testing.T, do func(what string, seq uint64, v *view.View, all []api.Item, place int)) {
	t.Helper()
	lists := mixedLists()
	for seq := range uint64(13) {
		all := seen(lists, seq)
		for place := range all {
			for what, way := range waysTo(place, all) {
				v := fresh(t, seq, lists...)
				way(v)
				isAt(t, what, v, all[place])
				do(what, seq, v, all, place)
			}
		}
	}
}

// P17.2: each call from each key, whichever way it came there.
func TestEachCallFromEachPlace(t *testing.T) {
	for _, m := range moves("", "a", "a\x00", "b", "c", "cc", "d", "f", "k", "z") {
		everyPlace(t, func(what string, seq uint64, v *view.View, all []api.Item, place int) {
			l := &line{all, place}
			m.v(v)
			m.l(l)
			asLine(t, func() string { return what + ", " + m.name }, v, l)
			for _, n := range moves("d")[2:] {
				n.v(v)
				n.l(l)
				asLine(t, func() string { return what + ", " + m.name + ", .., " + n.name }, v, l)
			}
		})
	}
}

// P17.2: turning round at each key, so often and so far, with users that are not seen on either side.
func TestTurning(t *testing.T) {
	turned := 0
	everyPlace(t, func(what string, seq uint64, v *view.View, all []api.Item, place int) {
		for end := range all {
			there, back, step := v.Next, v.Prev, 1
			if end < place {
				there, back, step = v.Prev, v.Next, -1
			}
			for range 2 {
				for at := place; at != end; at += step {
					isAt(t, what, v, all[at])
					there()
				}
				isAt(t, what+", there", v, all[end])
				for at := end; at != place; at -= step {
					isAt(t, what, v, all[at])
					back()
				}
				isAt(t, what+", back", v, all[place])
				turned++
			}
		}
	})
	if turned < 1000 {
		t.Errorf("turned %d times", turned)
	}
}

// P17.2: First and Last from each key, twice, too, and what is beside them.
func TestFirstAndLastFromEachPlace(t *testing.T) {
	everyPlace(t, func(what string, seq uint64, v *view.View, all []api.Item, place int) {
		first, last := all[0], all[len(all)-1]
		v.First()
		isAt(t, what+", First", v, first)
		v.First()
		isAt(t, what+", First twice", v, first)
		v.Last()
		isAt(t, what+", Last", v, last)
		v.Last()
		isAt(t, what+", Last twice", v, last)
		v.Next()
		staysAtNone(t, what+", behind the last", v)
		v.First()
		isAt(t, what+", First at none", v, first)
		v.Prev()
		staysAtNone(t, what+", ahead of the first", v)
		v.Last()
		isAt(t, what+", Last at none", v, last)
	})
}

// P17.2: ahead of any call it is at none, where Next, Prev and At leave it; so do they behind the last key, ahead of the first, and behind a Seek that found none.
func TestAtNone(t *testing.T) {
	lists := mixedLists()
	for seq := range uint64(13) {
		all := seen(lists, seq)
		v := fresh(t, seq, lists...)
		staysAtNone(t, "ahead of any call", v)
		v.Last()
		v.Next()
		staysAtNone(t, "behind the last", v)
		v.First()
		v.Prev()
		staysAtNone(t, "ahead of the first", v)
		v.First()
		v.Seek("zzz")
		staysAtNone(t, "sought behind all", v)
		for place, i := range all {
			v.Seek(i.Key)
			isAt(t, "Seek at none", v, all[place])
			v.Seek("zzz")
			atNone(t, "Seek behind all", v)
			v.Prev()
			atNone(t, "Prev behind it", v)
		}
		goesOn(t, "First at none", v, all)
		goesBack(t, "Last at none", v, all)
	}
}

// P17.3: all that is seen comes, each key once, from wherever it went ahead of First and Last, and so does what is left from a key on.
func TestAllFromEachPlace(t *testing.T) {
	everyPlace(t, func(what string, seq uint64, v *view.View, all []api.Item, place int) {
		for _, i := range all[place:] {
			isAt(t, what+", on", v, i)
			v.Next()
		}
		atNone(t, what+", on", v)
		goesBack(t, what, v, all)
		v.Seek(all[place].Key)
		for at := place; at >= 0; at-- {
			isAt(t, what+", back", v, all[at])
			v.Prev()
		}
		atNone(t, what+", back", v)
		goesOn(t, what, v, all)
	})
}
