package view_test

import (
	"fmt"
	"math"
	"slices"
	"strconv"
	"strings"
	"testing"

	"staddle/api"
	"staddle/view"
)

// put is an entry that puts a value.
func put(user string, seq uint64, value string) api.KV {
	return api.KV{Key: api.IKey{User: user, Seq: seq, Kind: api.Put}, Value: value}
}

// del is an entry that deletes.
func del(user string, seq uint64) api.KV {
	return api.KV{Key: api.IKey{User: user, Seq: seq, Kind: api.Delete}}
}

// odd is an entry of a kind that is none.
func odd(user string, seq uint64, kind int) api.KV {
	return api.KV{Key: api.IKey{User: user, Seq: seq, Kind: kind}, Value: "odd"}
}

// item is a key as it is seen.
func item(key, value string) api.Item { return api.Item{Key: key, Value: value} }

// short is how something looks, cut where it would be long.
func short(x any) string {
	s := fmt.Sprintf("%v", x)
	return strconv.Quote(s[:min(len(s), 300)])
}

// fresh is a View of lists that rise; it is at none.
func fresh(t testing.TB, seq uint64, lists ...[]api.KV) *view.View {
	t.Helper()
	v, err := view.New(lists, seq)
	if v == nil || err != api.OK {
		t.Fatalf("New of %d lists: nil is %v, %d", len(lists), v == nil, err)
	}
	atNone(t, "New", v)
	return v
}

// isAt tells a fault if it is anywhere else; asked twice, since At goes nowhere.
func isAt(t testing.TB, what string, v *view.View, want api.Item) {
	t.Helper()
	for range 2 {
		if i, ok := v.At(); i != want || !ok {
			t.Fatalf("%s: at %s, %v; want %s", what, short(i), ok, short(want))
		}
	}
}

// atNone tells a fault if it is anywhere.
func atNone(t testing.TB, what string, v *view.View) {
	t.Helper()
	for range 2 {
		if i, ok := v.At(); i != (api.Item{}) || ok {
			t.Fatalf("%s: at %s, %v; want none", what, short(i), ok)
		}
	}
}

// goesOn tells a fault if it goes through others than these, in that order, or not to none behind them.
func goesOn(t testing.TB, what string, v *view.View, want []api.Item) {
	t.Helper()
	v.First()
	for _, i := range want {
		isAt(t, what+", on", v, i)
		v.Next()
	}
	staysAtNone(t, what+", on", v)
}

// goesBack is goesOn from the last one on.
func goesBack(t testing.TB, what string, v *view.View, want []api.Item) {
	t.Helper()
	v.Last()
	for i := len(want) - 1; i >= 0; i-- {
		isAt(t, what+", back", v, want[i])
		v.Prev()
	}
	staysAtNone(t, what+", back", v)
}

// staysAtNone tells a fault if it is anywhere, or if Next or Prev go anywhere.
func staysAtNone(t testing.TB, what string, v *view.View) {
	t.Helper()
	atNone(t, what, v)
	for range 2 {
		v.Next()
		atNone(t, what+", Next at none", v)
		v.Prev()
		atNone(t, what+", Prev at none", v)
	}
}

// turnsAtEach tells a fault if Next and Prev, or Prev and Next, do not lead back to each of these, whichever way it came there.
func turnsAtEach(t testing.TB, what string, v *view.View, want []api.Item) {
	t.Helper()
	for at := range want {
		v.First()
		for range at {
			v.Next()
		}
		if at+1 < len(want) {
			v.Next()
			isAt(t, what+", Next", v, want[at+1])
			v.Prev()
		}
		isAt(t, what+", turned round", v, want[at])
		if at > 0 {
			v.Prev()
			isAt(t, what+", Prev", v, want[at-1])
			v.Next()
		}
		isAt(t, what+", turned round twice", v, want[at])
	}
}

// sees tells a fault if what is seen at a number is other than these, on, back or turning round at each, or if Seek does not find each.
func sees(t testing.TB, what string, lists [][]api.KV, seq uint64, want ...api.Item) {
	t.Helper()
	v := fresh(t, seq, lists...)
	what += " at " + strconv.FormatUint(seq, 10)
	goesOn(t, what, v, want)
	goesBack(t, what, v, want)
	goesOn(t, what+", again", v, want)
	turnsAtEach(t, what, v, want)
	for _, i := range want {
		v.Seek(i.Key)
		isAt(t, what+", Seek", v, i)
	}
}

// refuses tells a fault if there is a View of lists.
func refuses(t *testing.T, what string, lists ...[]api.KV) {
	t.Helper()
	for _, seq := range []uint64{0, 1, 7, api.MaxSeq, math.MaxUint64} {
		if v, err := view.New(lists, seq); v != nil || err != api.ErrMergeOrder {
			t.Errorf("%s at %d: nil is %v, %d", what, seq, v == nil, err)
		}
	}
}

// The section "Errors": the number is api's.
func TestNumbers(t *testing.T) {
	if api.OK != 0 || api.ErrMergeOrder != 160 {
		t.Error("an error has another number than the document's")
	}
}

// exampleLists are the entries of the chapter's examples, in two lists.
func exampleLists() [][]api.KV {
	return [][]api.KV{{del("a", 5), put("b", 4, "y")}, {put("a", 3, "x"), put("b", 2, "z"), put("c", 1, "")}}
}

// The chapter's examples; the same ones, laid in other lists, too.
func TestExamples(t *testing.T) {
	l := exampleLists()
	for _, lists := range [][][]api.KV{
		l, {l[1], l[0]}, {nil, l[0], nil, l[1]},
		{{del("a", 5), put("a", 3, "x"), put("b", 4, "y"), put("b", 2, "z"), put("c", 1, "")}},
		{l[0][:1], l[0][1:], l[1][:1], l[1][1:2], l[1][2:]},
	} {
		v := fresh(t, 4, lists...)
		v.First()
		isAt(t, "of 4, First", v, item("a", "x"))
		v.Next()
		isAt(t, "of 4, Next", v, item("b", "y"))
		v.Next()
		isAt(t, "of 4, Next", v, item("c", ""))
		v.Next()
		atNone(t, "of 4, Next", v)
		v = fresh(t, 5, lists...)
		v.First()
		isAt(t, "of 5, First", v, item("b", "y"))
		v.Seek("aa")
		isAt(t, "of 5, Seek", v, item("b", "y"))
		v.Prev()
		atNone(t, "of 5, Prev", v)
		v = fresh(t, 2, lists...)
		v.Last()
		isAt(t, "of 2, Last", v, item("c", ""))
		v.Prev()
		isAt(t, "of 2, Prev", v, item("b", "z"))
		v.Prev()
		atNone(t, "of 2, Prev", v)
	}
}

// P17.1, P17.2: no list, and lists without entries: nothing is seen, and no call goes anywhere.
func TestNothing(t *testing.T) {
	for what, lists := range map[string][][]api.KV{
		"nil":            nil,
		"no list":        {},
		"a nil list":     {nil},
		"an empty list":  {{}},
		"several":        {nil, {}, make([]api.KV, 0, 5), nil},
		"a thousand":     make([][]api.KV, 1000),
		"with room":      make([][]api.KV, 0, 4),
		"one, with room": {[]api.KV{put("a", 1, "x"), put("b", 1, "y")}[:0]},
	} {
		for _, seq := range []uint64{0, 1, api.MaxSeq, math.MaxUint64} {
			v := fresh(t, seq, lists...)
			for _, c := range calls("", "a", "\xff") {
				c.do(v)
				staysAtNone(t, what+", "+c.name, v)
			}
			sees(t, what, lists, seq)
		}
	}
}

// P17.1, P17.2: one list, of one entry and of more.
func TestOneList(t *testing.T) {
	sees(t, "one entry", [][]api.KV{{put("a", 1, "x")}}, 1, item("a", "x"))
	sees(t, "one entry", [][]api.KV{{put("a", 1, "x")}}, 0)
	sees(t, "the empty user", [][]api.KV{{put("", 0, "")}}, 0, item("", ""))
	sees(t, "one delete", [][]api.KV{{del("a", 1)}}, 1)
	all := []api.KV{put("a", 3, "1"), put("b", 2, "2"), put("c", 1, "3"), put("d", 3, "4")}
	seen := []api.Item{item("a", "1"), item("b", "2"), item("c", "3"), item("d", "4")}
	for n := range len(all) + 1 {
		sees(t, "a beginning", [][]api.KV{all[:n]}, 3, seen[:n]...)
		sees(t, "an end", [][]api.KV{all[n:]}, 3, seen[n:]...)
	}
}

// P17.1, P17.2: empty lists ahead of, between and behind others.
func TestEmptyListsAmongOthers(t *testing.T) {
	a := []api.KV{put("a", 1, "0"), put("c", 2, "0")}
	b := []api.KV{put("b", 1, "1"), put("c", 1, "1"), put("d", 1, "1")}
	want := []api.Item{item("a", "0"), item("b", "1"), item("c", "0"), item("d", "1")}
	for _, lists := range [][][]api.KV{
		{a, b}, {b, a}, {nil, a, b}, {a, {}, b}, {a, b, nil}, {{}, {}, a, nil, nil, b, {}, {}}, {nil, nil, nil, b, a},
	} {
		sees(t, "empty ones", lists, 2, want...)
	}
	sees(t, "one among many", append(make([][]api.KV, 100), a), 2, want[0], want[2])
	sees(t, "one ahead of many", append([][]api.KV{a}, make([][]api.KV, 100)...), 2, want[0], want[2])
}

// P17.1: lists that do not rise: at their first entries, between, and at their last ones; in the first list, between, and in the last one.
func TestListsThatDoNotRise(t *testing.T) {
	good := []api.KV{put("b", 5, "good"), put("d", 5, "good"), del("d", 4), put("f", 5, "good")}
	ahead, behind := []api.KV{put("a", 9, ""), put("a", 8, "")}, []api.KV{put("w", 9, ""), del("x", 9)}
	for what, bad := range map[string][]api.KV{
		"equal keys":         {put("c", 7, "x"), put("c", 7, "x")},
		"other values":       {put("c", 7, "x"), put("c", 7, "y")},
		"equal deletes":      {del("c", 7), del("c", 7)},
		"falling users":      {put("cc", 7, ""), put("cb", 7, "")},
		"a beginning behind": {put("ca", 7, ""), put("c", 7, "")},
		"rising numbers":     {put("c", 6, ""), put("c", 7, "")},
		"by one kind":        {del("c", 7), put("c", 7, "")},
		"strange kinds":      {odd("c", 7, -1), odd("c", 7, 2)},
		"great numbers":      {put("c", math.MaxUint64-1, ""), put("c", math.MaxUint64, "")},
		"bytes as they are":  {put("c\xff", 1, ""), put("c\x01", 1, "")},
		"a nought":           {put("c\x00", 1, ""), put("c", 1, "")},
	} {
		for where, l := range map[string][]api.KV{
			"alone":   bad,
			"first":   slices.Concat(bad, behind),
			"last":    slices.Concat(ahead, bad),
			"between": slices.Concat(ahead, bad, behind),
		} {
			what := what + ", " + where
			refuses(t, what, l)
			refuses(t, what+", first list", l, good, good)
			refuses(t, what+", between lists", good, l, good)
			refuses(t, what+", last list", good, good, l)
			refuses(t, what+", among empty ones", nil, l, nil)
		}
	}
}

// P17.1: lists that fall as against one another do not matter, nor do those that are the same.
func TestListsOverOneAnother(t *testing.T) {
	high, low := []api.KV{put("y", 1, "h"), put("z", 1, "h")}, []api.KV{put("a", 1, "l"), put("b", 1, "l")}
	want := []api.Item{item("a", "l"), item("b", "l"), item("y", "h"), item("z", "h")}
	sees(t, "falling lists", [][]api.KV{high, low}, 1, want...)
	sees(t, "rising lists", [][]api.KV{low, high}, 1, want...)
	sees(t, "one list twice", [][]api.KV{low, low}, 1, want[:2]...)
}

// P17.1, P17.2, R1: keys that may not be elsewhere are seen as others are.
func TestStrangeKeys(t *testing.T) {
	long := strings.Repeat("m", 70000)
	lists := [][]api.KV{
		{put("", math.MaxUint64, "0"), put("", api.MaxSeq+1, "1"), put("", api.MaxSeq, "2"), put(long, 1<<60, "3"), put(long, 0, "4"), put("\xff", 1, strings.Repeat("v", 100000))},
		{odd("", math.MaxUint64, math.MaxInt), odd("", 3, math.MinInt), put(long+"m", 1<<60, "5"), odd("\xff\xff", 0, math.MaxInt)},
	}
	last := item("\xff", strings.Repeat("v", 100000))
	sees(t, "strange ones", lists, math.MaxUint64, item(long, "3"), item(long+"m", "5"), last)
	sees(t, "strange ones", lists, math.MaxUint64-1, item("", "1"), item(long, "3"), item(long+"m", "5"), last)
	sees(t, "strange ones", lists, 1<<60, item("", "1"), item(long, "3"), item(long+"m", "5"), last)
	sees(t, "strange ones", lists, 1<<60-1, item("", "1"), item(long, "4"), last)
	sees(t, "strange ones", lists, api.MaxSeq+1, item("", "1"), item(long, "4"), last)
	sees(t, "strange ones", lists, api.MaxSeq, item("", "2"), item(long, "4"), last)
	sees(t, "strange ones", lists, api.MaxSeq-1, item(long, "4"), last)
	sees(t, "strange ones", lists, 3, item(long, "4"), last)
	sees(t, "strange ones", lists, 0, item(long, "4"))
	v := fresh(t, 1, lists...)
	v.Seek(long[1:])
	isAt(t, "Seek", v, item(long, "4"))
	v.Seek(long + "\x00")
	isAt(t, "Seek", v, last)
}
