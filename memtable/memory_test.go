package memtable_test

import (
	"math"
	"slices"
	"strings"
	"testing"

	"staddle/api"
	"staddle/memtable"
)

// R1: a nil table: ErrArg ahead of all else, and zero values where there is no error.
func TestNil(t *testing.T) {
	var m *memtable.Table
	m.Freeze()
	for _, k := range []api.IKey{put("a", 1), del("", 0), put(strings.Repeat("a", 65), 1), put("a", math.MaxUint64), {Kind: 5}} {
		for _, value := range []string{"", "x", strings.Repeat("v", 1001)} {
			if err := m.Add(k, value); err != api.ErrArg {
				t.Errorf("Add(%s): %d", short(k), err)
			}
		}
		knows(t, m, k.User, k.Seq, "", api.None)
	}
	if l := m.All(); len(l) != 0 {
		t.Errorf("All: %s", short(l))
	}
	if n := m.Size(); n != 0 {
		t.Errorf("Size: %d", n)
	}
}

// R1: a table that was not made by New is an empty one.
func TestHandMade(t *testing.T) {
	m := new(memtable.Table)
	holds(t, m, 0)
	knows(t, m, "", 0, "", api.None)
	knows(t, m, "a", math.MaxUint64, "", api.None)
	refuses(t, m, put("a", 1<<56), "x", api.ErrKeySeq)
	adds(t, m, put("a", 1), "x")
	refuses(t, m, put("a", 1), "x", api.ErrMemSame)
	knows(t, m, "a", 1, "x", api.There)
	holds(t, m, 18, api.KV{Key: put("a", 1), Value: "x"})
	frozen := new(memtable.Table)
	frozen.Freeze()
	refuses(t, frozen, put("a", 1), "x", api.ErrMemFrozen)
	holds(t, frozen, 0)
}

// R1: a table that is a copy of another one neither panics nor goes on without end, whichever of both is told.
func TestCopied(t *testing.T) {
	m := memtable.New()
	copied := *m
	for seq := range uint64(4000) {
		adds(t, []*memtable.Table{m, &copied}[seq/7%2], put("a", seq), "x")
		if seq == 500 || seq == 2500 {
			copied = *m
		}
		if seq%100 == 0 {
			for _, x := range []*memtable.Table{m, &copied} {
				x.All()
				x.Size()
				x.Get("a", seq)
				x.Get("b", seq)
				x.Get("", seq)
			}
		}
	}
}

// R4: what is answered is new memory, spare room too; an answer stays, whatever is done behind it.
func TestAnswersAreNew(t *testing.T) {
	m := memtable.New()
	for seq := range uint64(1500) {
		adds(t, m, put("user", seq), "value")
		if seq != 0 && seq != 10 && seq != 1499 {
			continue
		}
		want := slices.Clone(m.All())
		kept := m.All()
		spoilt, other := m.All(), m.All()
		for i := range spoilt[:cap(spoilt)] {
			spoilt[:cap(spoilt)][i] = api.KV{Key: put("spoilt", 0), Value: "spoilt"}
		}
		more := append(other, api.KV{Key: put("more", 0)}, api.KV{Key: put("and more", 0)})
		if !slices.Equal(more[:len(want)], want) || !slices.Equal(kept, want) {
			t.Errorf("two answers share memory: %s", short(more))
		}
		holds(t, m, sizeOf(want), want...)
		adds(t, m, put("another", seq), "value")
		if !slices.Equal(kept, want) {
			t.Errorf("an answer became %s", short(kept))
		}
		knows(t, m, "user", seq, "value", api.There)
	}
}

// R4: users and values that are made of bytes stay, whatever becomes of the bytes.
func TestTextsStay(t *testing.T) {
	m := memtable.New()
	user, value := []byte("some user"), []byte("some value")
	adds(t, m, put(string(user), 1), string(value))
	clear(user)
	clear(value)
	holds(t, m, 9+10+16, api.KV{Key: put("some user", 1), Value: "some value"})
	knows(t, m, "some user", 1, "some value", api.There)
}

// R5: the same calls tell the same; to read, and what is refused, changes nothing.
func TestAgain(t *testing.T) {
	run := func(more bool) []told {
		m := memtable.New()
		var out []told
		for i := range 2600 {
			k := put(strings.Repeat("u", i*i%60), uint64(i*7919%2600))
			adds(t, m, k, strings.Repeat("v", i%5))
			if more {
				m.Get(k.User, uint64(i))
				m.Get("other", uint64(i))
				m.Add(k, "again")
				m.Add(del(k.User, k.Seq), "value")
				m.Add(put(k.User, 1<<60), "")
			}
			if i%100 == 0 || i > 2590 {
				out = append(out, tells(m))
			}
		}
		return out
	}
	first := run(false)
	if !slices.EqualFunc(first, run(false), same) {
		t.Error("the same calls told others")
	}
	if !slices.EqualFunc(first, run(true), same) {
		t.Error("what was read or refused changed what was told")
	}
}

// R5: tables are apart from one another.
func TestApart(t *testing.T) {
	x, y := memtable.New(), memtable.New()
	adds(t, x, put("a", 1), "x")
	holds(t, y, 0)
	adds(t, y, put("a", 1), "y")
	x.Freeze()
	adds(t, y, put("a", 2), "z")
	knows(t, x, "a", 2, "x", api.There)
	knows(t, y, "a", 1, "y", api.There)
}
