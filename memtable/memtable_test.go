package memtable_test

import (
	"fmt"
	"math"
	"slices"
	"strconv"
	"strings"
	"testing"

	"staddle/api"
	"staddle/memtable"
)

func put(user string, seq uint64) api.IKey { return api.IKey{User: user, Seq: seq, Kind: api.Put} }

func del(user string, seq uint64) api.IKey { return api.IKey{User: user, Seq: seq, Kind: api.Delete} }

// short is how something looks, cut where it would be long.
func short(x any) string {
	s := fmt.Sprintf("%v", x)
	return strconv.Quote(s[:min(len(s), 300)])
}

// adds puts a key, and tells a fault if it is refused.
func adds(t *testing.T, m *memtable.Table, k api.IKey, value string) {
	t.Helper()
	if err := m.Add(k, value); err != api.OK {
		t.Fatalf("Add(%s, %.20q): %d", short(k), value, err)
	}
}

// filled is a table with these entries, added in that order.
func filled(t *testing.T, entries ...api.KV) *memtable.Table {
	t.Helper()
	m := memtable.New()
	for _, e := range entries {
		adds(t, m, e.Key, e.Value)
	}
	return m
}

// told is all that a table tells without being asked for a user.
type told struct {
	all  []api.KV
	size int
}

func tells(m *memtable.Table) told { return told{m.All(), m.Size()} }

func same(x, y told) bool { return x.size == y.size && slices.Equal(x.all, y.all) }

// refuses tells a fault if an Add answers another error, or changes what the table tells.
func refuses(t *testing.T, m *memtable.Table, k api.IKey, value string, want api.Errno) {
	t.Helper()
	before := tells(m)
	was, what := m.Get(k.User, k.Seq)
	if err := m.Add(k, value); err != want {
		t.Errorf("Add(%s, %d bytes): %d, not %d", short(k), len(value), err, want)
	}
	if behind := tells(m); !same(before, behind) {
		t.Errorf("the refused Add(%s) changed %s into %s", short(k), short(before), short(behind))
	}
	knows(t, m, k.User, k.Seq, was, what)
}

// knows tells a fault if a Get answers anything else.
func knows(t *testing.T, m *memtable.Table, user string, seq uint64, value string, what int) {
	t.Helper()
	if v, w := m.Get(user, seq); v != value || w != what {
		t.Errorf("Get(%.70q, %d): %.20q, %d, not %.20q, %d", user, seq, v, w, value, what)
	}
}

// holds tells a fault if a table has others than these entries, or their size is another one.
func holds(t *testing.T, m *memtable.Table, size int, entries ...api.KV) {
	t.Helper()
	if x, want := tells(m), (told{entries, size}); !same(x, want) {
		t.Errorf("it tells %s, not %s", short(x), short(want))
	}
}

// The sections "Errors" and "Types": the numbers are api's.
func TestNumbers(t *testing.T) {
	if api.OK != 0 || api.ErrArg != 1 || api.ErrKeyLong != 21 || api.ErrKeySeq != 22 || api.ErrKeyKind != 23 {
		t.Error("an error has another number than the document's")
	}
	if api.ErrBatchValue != 31 || api.ErrMemFrozen != 80 || api.ErrMemSame != 81 {
		t.Error("an error has another number than the document's")
	}
	if api.None != 0 || api.Deleted != 1 || api.There != 2 {
		t.Error("what is known of a key has another number than the document's")
	}
	if api.Delete != 0 || api.Put != 1 || api.MaxKey != 64 || api.MaxSeq != 1<<56-1 || api.MaxValue != 1000 {
		t.Error("a kind or a limit is another one than the document's")
	}
}

// The chapter's examples.
func TestExamples(t *testing.T) {
	m := memtable.New()
	adds(t, m, put("a", 1), "x")
	adds(t, m, del("a", 3), "")
	adds(t, m, put("a", 5), "y")
	knows(t, m, "a", 0, "", api.None)
	knows(t, m, "a", 1, "x", api.There)
	knows(t, m, "a", 2, "x", api.There)
	knows(t, m, "a", 3, "", api.Deleted)
	knows(t, m, "a", 4, "", api.Deleted)
	knows(t, m, "a", 5, "y", api.There)
	if n := m.Size(); n != 53 {
		t.Errorf("Size: %d", n)
	}
	refuses(t, m, del("a", 3), "", api.ErrMemSame)
	m.Freeze()
	refuses(t, m, put("a", 7), "z", api.ErrMemFrozen)
}

// P8.1: a new table has nothing, and is not frozen.
func TestNew(t *testing.T) {
	m := memtable.New()
	if m == nil {
		t.Fatal("New: nil")
	}
	holds(t, m, 0)
	knows(t, m, "", 0, "", api.None)
	knows(t, m, "a", api.MaxSeq, "", api.None)
	adds(t, m, put("", 0), "")
	holds(t, m, 16, api.KV{Key: put("", 0)})
	other := memtable.New()
	holds(t, other, 0)
	other.Freeze()
	adds(t, m, put("", 1), "")
}

// P8.1: a value of as many bytes as there may be, and of one more; none of them where the key deletes.
func TestValues(t *testing.T) {
	m := memtable.New()
	most := strings.Repeat("v", 1000)
	adds(t, m, put("a", 1), most)
	knows(t, m, "a", 1, most, api.There)
	refuses(t, m, put("a", 2), most+"v", api.ErrBatchValue)
	refuses(t, m, put("a", 2), strings.Repeat("v", 100000), api.ErrBatchValue)
	knows(t, m, "a", 2, most, api.There)
	for _, value := range []string{"v", "\x00", most, most + "v"} {
		refuses(t, m, del("a", 3), value, api.ErrBatchValue)
		refuses(t, m, del("b", 0), value, api.ErrBatchValue)
	}
	adds(t, m, del("a", 3), "")
	adds(t, m, put("a", 2), "")
	knows(t, m, "a", 2, "", api.There)
	holds(t, m, 3*17+1000, api.KV{Key: del("a", 3)}, api.KV{Key: put("a", 2)}, api.KV{Key: put("a", 1), Value: most})
}

// P8.1: ikey.Check's errors, at their edges.
func TestKeysThatMayNotBe(t *testing.T) {
	m := memtable.New()
	most := strings.Repeat("\x00", 64)
	refuses(t, m, put(most+"a", 1), "", api.ErrKeyLong)
	refuses(t, m, del(strings.Repeat("a", 100000), 1), "", api.ErrKeyLong)
	refuses(t, m, put(most, 1<<56), "", api.ErrKeySeq)
	refuses(t, m, del("a", math.MaxUint64), "", api.ErrKeySeq)
	for _, kind := range []int{-1, 2, 3, 255, 256, 257, math.MaxInt, math.MinInt} {
		refuses(t, m, api.IKey{User: "a", Seq: 1, Kind: kind}, "", api.ErrKeyKind)
		refuses(t, m, api.IKey{User: "a", Seq: 1, Kind: kind}, "x", api.ErrKeyKind)
	}
	holds(t, m, 0)
	adds(t, m, put(most, api.MaxSeq), "x")
	adds(t, m, del(most, 0), "")
	holds(t, m, 2*80+1, api.KV{Key: put(most, api.MaxSeq), Value: "x"}, api.KV{Key: del(most, 0)})
	knows(t, m, most, api.MaxSeq-1, "", api.Deleted)
	knows(t, m, most+"a", api.MaxSeq, "", api.None)
}

// P8.1, R2: where several errors would do, the first one is told.
func TestWhichError(t *testing.T) {
	long, much := strings.Repeat("a", 65), strings.Repeat("v", 1001)
	m := filled(t, api.KV{Key: put("a", 1), Value: "x"}, api.KV{Key: del("a", 2)})
	for _, c := range []struct {
		k     api.IKey
		value string
		want  api.Errno
	}{
		{api.IKey{User: long, Seq: 1 << 56, Kind: 2}, much, api.ErrKeyLong},
		{api.IKey{User: long, Seq: 1, Kind: 2}, "", api.ErrKeyLong},
		{put(long, 1<<56), "", api.ErrKeyLong},
		{put(long, 1), much, api.ErrKeyLong},
		{del(long, 1), "x", api.ErrKeyLong},
		{api.IKey{User: "a", Seq: 1 << 56, Kind: 2}, much, api.ErrKeySeq},
		{put("a", 1<<56), much, api.ErrKeySeq},
		{del("a", 1<<56), "x", api.ErrKeySeq},
		{api.IKey{User: "a", Seq: 1, Kind: 2}, much, api.ErrKeyKind},
		{put("a", 1), much, api.ErrBatchValue},
		{del("a", 2), "x", api.ErrBatchValue},
		{del("a", 2), much, api.ErrBatchValue},
		{put("a", 1), "x", api.ErrMemSame},
		{put("a", 1), "y", api.ErrMemSame},
		{put("a", 1), "", api.ErrMemSame},
		{del("a", 2), "", api.ErrMemSame},
	} {
		refuses(t, m, c.k, c.value, c.want)
		frozen := filled(t, api.KV{Key: put("a", 1), Value: "x"}, api.KV{Key: del("a", 2)})
		frozen.Freeze()
		refuses(t, frozen, c.k, c.value, api.ErrMemFrozen)
	}
	holds(t, m, 35, api.KV{Key: del("a", 2)}, api.KV{Key: put("a", 1), Value: "x"})
}

// P8.1: the same key is there once; keys that are alike but for their user, their number or their kind are others.
func TestSame(t *testing.T) {
	keys := []api.IKey{put("a", 5), del("a", 5), put("a", 4), put("a", 6), put("b", 5), put("", 5), put("aa", 5), put("a\x00", 5), put("A", 5), put("a", 5+1<<8), put("a", 5+1<<32), put("a", 5+1<<55)}
	m := memtable.New()
	for i, k := range keys {
		adds(t, m, k, "")
		for _, again := range keys[:i+1] {
			refuses(t, m, again, "", api.ErrMemSame)
		}
		if l := m.All(); len(l) != i+1 {
			t.Errorf("%d keys, not %d", len(l), i+1)
		}
	}
}

// P8.1: behind Freeze nothing is added, and what is there is told as ahead of it.
func TestFreeze(t *testing.T) {
	m := filled(t, api.KV{Key: put("a", 1), Value: "x"}, api.KV{Key: del("b", 2)})
	for range 3 {
		m.Freeze()
		refuses(t, m, put("c", 3), "z", api.ErrMemFrozen)
		refuses(t, m, put("a", 1), "x", api.ErrMemFrozen)
		refuses(t, m, del("a", 9), "", api.ErrMemFrozen)
		holds(t, m, 35, api.KV{Key: put("a", 1), Value: "x"}, api.KV{Key: del("b", 2)})
		knows(t, m, "a", 1, "x", api.There)
		knows(t, m, "a", 9, "x", api.There)
		knows(t, m, "a", 0, "", api.None)
		knows(t, m, "b", 2, "", api.Deleted)
		knows(t, m, "c", 3, "", api.None)
	}
	empty := memtable.New()
	empty.Freeze()
	refuses(t, empty, put("a", 1), "x", api.ErrMemFrozen)
	holds(t, empty, 0)
}

// R3: what was refused can be added rightly, and tells nothing ahead of that.
func TestRefusedThenAdded(t *testing.T) {
	m := memtable.New()
	refuses(t, m, del("a", 1), "x", api.ErrBatchValue)
	refuses(t, m, put("a", 2), strings.Repeat("v", 1001), api.ErrBatchValue)
	knows(t, m, "a", 9, "", api.None)
	adds(t, m, del("a", 1), "")
	adds(t, m, put("a", 2), "v")
	refuses(t, m, put("a", 2), "w", api.ErrMemSame)
	knows(t, m, "a", 1, "", api.Deleted)
	knows(t, m, "a", 2, "v", api.There)
	holds(t, m, 35, api.KV{Key: put("a", 2), Value: "v"}, api.KV{Key: del("a", 1)})
}
