package merge_test

import (
	"fmt"
	"math"
	"slices"
	"strconv"
	"strings"
	"testing"

	"staddle/api"
	"staddle/merge"
)

func put(user string, seq uint64) api.IKey { return api.IKey{User: user, Seq: seq, Kind: api.Put} }
func del(user string, seq uint64) api.IKey { return api.IKey{User: user, Seq: seq, Kind: api.Delete} }

// list is entries of these keys, all of one value, that tells from which list they come.
func list(value string, keys ...api.IKey) []api.KV {
	var out []api.KV
	for _, k := range keys {
		out = append(out, api.KV{Key: k, Value: value})
	}
	return out
}

// short is how something looks, cut where it would be long.
func short(x any) string {
	s := fmt.Sprintf("%v", x)
	return strconv.Quote(s[:min(len(s), 300)])
}

// fresh is an Iter of lists that rise; it is at none.
func fresh(t testing.TB, lists ...[]api.KV) *merge.Iter {
	t.Helper()
	x, err := merge.New(lists)
	if x == nil || err != api.OK {
		t.Fatalf("New of %d lists: nil is %v, %d", len(lists), x == nil, err)
	}
	atNone(t, "New", x)
	return x
}

// isAt tells a fault if it is anywhere else; asked twice, since At goes nowhere.
func isAt(t testing.TB, what string, x *merge.Iter, want api.KV) {
	t.Helper()
	for range 2 {
		if e, ok := x.At(); e != want || !ok {
			t.Fatalf("%s: at %s, %v; want %s", what, short(e), ok, short(want))
		}
	}
}

// atNone tells a fault if it is anywhere.
func atNone(t testing.TB, what string, x *merge.Iter) {
	t.Helper()
	for range 2 {
		if e, ok := x.At(); e != (api.KV{}) || ok {
			t.Fatalf("%s: at %s, %v; want none", what, short(e), ok)
		}
	}
}

// goesOn tells a fault if it goes through others than these, in that order, or not to none behind them.
func goesOn(t testing.TB, what string, x *merge.Iter, want []api.KV) {
	t.Helper()
	x.First()
	for _, e := range want {
		isAt(t, what+", on", x, e)
		x.Next()
	}
	atNone(t, what+", on", x)
}

// goesBack is goesOn from the last one on.
func goesBack(t testing.TB, what string, x *merge.Iter, want []api.KV) {
	t.Helper()
	x.Last()
	for i := len(want) - 1; i >= 0; i-- {
		isAt(t, what+", back", x, want[i])
		x.Prev()
	}
	atNone(t, what+", back", x)
}

// holds tells a fault if all entries of lists are others than these, on or back.
func holds(t testing.TB, what string, lists [][]api.KV, want ...api.KV) {
	t.Helper()
	x := fresh(t, lists...)
	goesOn(t, what, x, want)
	goesBack(t, what, x, want)
	goesOn(t, what+", again", x, want)
}

// refuses tells a fault if there is an Iter of lists.
func refuses(t *testing.T, what string, lists ...[]api.KV) {
	t.Helper()
	if x, err := merge.New(lists); x != nil || err != api.ErrMergeOrder {
		t.Errorf("%s: nil is %v, %d", what, x == nil, err)
	}
}

// The section "Errors": the number is api's.
func TestNumbers(t *testing.T) {
	if api.OK != 0 || api.ErrMergeOrder != 160 {
		t.Error("an error has another number than the document's")
	}
}

// exampleLists are those of the chapter's examples.
func exampleLists() [][]api.KV {
	return [][]api.KV{list("", del("a", 2), del("b", 1)), list("", del("a", 3), del("c", 1))}
}

// The chapter's examples.
func TestExamples(t *testing.T) {
	x := fresh(t, exampleLists()...)
	goesOn(t, "First, Next ..", x, list("", del("a", 3), del("a", 2), del("b", 1), del("c", 1)))
	for _, seek := range []api.IKey{put("b", 9), del("b", 9)} {
		x.Seek(seek)
		isAt(t, "Seek", x, api.KV{Key: del("b", 1)})
		x.Prev()
		isAt(t, "Prev", x, api.KV{Key: del("a", 2)})
		x.Next()
		isAt(t, "Next", x, api.KV{Key: del("b", 1)})
	}
}

// P16.1: no list, and lists without entries.
func TestNothing(t *testing.T) {
	for what, lists := range map[string][][]api.KV{
		"nil":            nil,
		"no list":        {},
		"a nil list":     {nil},
		"an empty list":  {{}},
		"several":        {nil, {}, make([]api.KV, 0, 5), nil},
		"a thousand":     make([][]api.KV, 1000),
		"with room":      make([][]api.KV, 0, 4),
		"one, with room": {list("", put("a", 1), put("b", 1))[:0]},
	} {
		x := fresh(t, lists...)
		for _, c := range calls(put("a", 1), put("", math.MaxUint64), put("\xff", 0)) {
			c.do(x)
			atNone(t, what+", "+c.name, x)
		}
		holds(t, what, lists)
	}
}

// P16.1, P16.2: one list, of one entry and of more.
func TestOneList(t *testing.T) {
	holds(t, "one entry", [][]api.KV{list("x", put("", 0))}, list("x", put("", 0))...)
	l := []api.KV{{Key: put("a", 3), Value: "x"}, {Key: del("a", 3)}, {Key: put("a", 1), Value: "y"}, {Key: put("ab", 9)}, {Key: put("b", 4), Value: "x"}}
	for n := range len(l) + 1 {
		holds(t, "a beginning", [][]api.KV{l[:n]}, l[:n]...)
		holds(t, "an end", [][]api.KV{l[n:]}, l[n:]...)
	}
}

// P16.1, P16.2: empty lists ahead of, between and behind others.
func TestEmptyListsAmongOthers(t *testing.T) {
	a, b := list("0", put("a", 1), put("c", 1)), list("1", put("b", 1), put("c", 1), put("d", 1))
	want := slices.Concat(a[:1], b[:1], a[1:], b[1:])
	for _, lists := range [][][]api.KV{
		{a, b}, {nil, a, b}, {a, {}, b}, {a, b, nil}, {{}, {}, a, nil, nil, b, {}, {}}, {nil, nil, nil, a, b},
	} {
		holds(t, "empty ones", lists, want...)
	}
	holds(t, "one among many", append(make([][]api.KV, 100), b), b...)
	holds(t, "one ahead of many", append([][]api.KV{b}, make([][]api.KV, 100)...), b...)
}

// P16.1: lists that do not rise: at their first entries, between, and at their last ones; in the first list, between, and in the last one.
func TestListsThatDoNotRise(t *testing.T) {
	good := list("good", put("b", 5), put("d", 5), put("d", 4), put("f", 5))
	for what, pair := range map[string][2]api.IKey{
		"equal keys":         {put("c", 7), put("c", 7)},
		"equal deletes":      {del("c", 7), del("c", 7)},
		"falling users":      {put("cc", 7), put("cb", 7)},
		"a beginning behind": {put("ca", 7), put("c", 7)},
		"rising numbers":     {put("c", 6), put("c", 7)},
		"by one kind":        {del("c", 7), put("c", 7)},
		"strange kinds":      {{User: "c", Seq: 7, Kind: -1}, {User: "c", Seq: 7, Kind: 2}},
		"great numbers":      {put("c", math.MaxUint64-1), put("c", math.MaxUint64)},
		"bytes as they are":  {put("c\xff", 1), put("c\x01", 1)},
		"a nought":           {put("c\x00", 1), put("c", 1)},
	} {
		bad := list("bad", pair[0], pair[1])
		ahead, behind := list("", put("a", 9), put("a", 8)), list("", put("w", 9), put("x", 9))
		for where, l := range map[string][]api.KV{
			"alone":   bad,
			"first":   slices.Concat(bad, behind),
			"last":    slices.Concat(ahead, bad),
			"between": slices.Concat(ahead, bad, behind),
		} {
			what := what + ", " + where
			refuses(t, what, l)
			refuses(t, what+", first list", l, good, good)
			refuses(t, what+", between lists", good, l, good)
			refuses(t, what+", last list", good, good, l)
			refuses(t, what+", among empty ones", nil, l, nil)
			refuses(t, what+", twice", l, l)
		}
	}
	refuses(t, "the same entry", list("", put("", 0), put("", 0)))
	refuses(t, "other values", append(list("x", put("a", 1)), list("y", put("a", 1))...))
	refuses(t, "a whole list turned round", list("", put("c", 1), put("b", 1), put("a", 1)))
}

// P16.1: one fault at each place of a long list.
func TestOneFault(t *testing.T) {
	const n = 200
	for place := 1; place < n; place++ {
		var l []api.KV
		for i := range uint64(n) {
			l = append(l, api.KV{Key: put("user", n-i)})
		}
		holds(t, "no fault", [][]api.KV{l}, l...)
		l[place].Key.Seq = l[place-1].Key.Seq
		refuses(t, "one fault", l)
	}
}

// P16.1: what stands in other lists does not matter: those that rise each by itself may hold any keys, the same ones too.
func TestListsOverOneAnother(t *testing.T) {
	high, low := list("0", put("y", 1), put("z", 1)), list("1", put("a", 1), put("b", 1))
	holds(t, "falling lists", [][]api.KV{high, low}, slices.Concat(low, high)...)
	holds(t, "rising lists", [][]api.KV{low, high}, slices.Concat(low, high)...)
	holds(t, "one list twice", [][]api.KV{low, low}, low[0], low[0], low[1], low[1])
}

// P16.1, R1: keys that may not be elsewhere are in order here as others are.
func TestStrangeKeys(t *testing.T) {
	long := strings.Repeat("m", 70000)
	keys := []api.IKey{
		{User: "", Seq: math.MaxUint64, Kind: math.MaxInt},
		{User: "", Seq: math.MaxUint64, Kind: math.MinInt},
		{User: "", Seq: api.MaxSeq + 1, Kind: 7},
		put("", api.MaxSeq),
		{User: "m", Seq: 3, Kind: 256}, {User: "m", Seq: 3, Kind: 1}, {User: "m", Seq: 3, Kind: 0}, {User: "m", Seq: 3, Kind: -1},
		put(long, 1<<60), put(long, 0), put(long+"m", 1<<60),
		put("\xff", 1), put("\xff\xff", 1),
		{User: "\xff\xff", Seq: 0, Kind: math.MinInt},
	}
	all := list("x", keys...)
	holds(t, "one list", [][]api.KV{all}, all...)
	var odd, even []api.KV
	for i, e := range all {
		if i%2 == 0 {
			even = append(even, e)
		} else {
			odd = append(odd, e)
		}
	}
	holds(t, "two lists", [][]api.KV{odd, even}, all...)
	x := fresh(t, even, odd)
	for i, k := range keys {
		x.Seek(k)
		isAt(t, "Seek", x, all[i])
	}
	x.Seek(api.IKey{User: "\xff\xff\xff", Seq: math.MaxUint64, Kind: math.MaxInt})
	atNone(t, "Seek behind all", x)
}
