package memtable_test

import (
	"math"
	"slices"
	"strings"
	"testing"

	"staddle/api"
	"staddle/ikey"
	"staddle/memtable"
)

// oddUsers are users with the edges of what bytes may be, some of which begin with others.
func oddUsers() []string {
	return []string{
		"", "\x00", "\x00\x00", "\x00\x00\x00", "\x00\x00\x01", "\x00\x01", "\x00\x01\x00", "\x00\x02", "\x00\xff", "\x01", "\x01\x00", "\x01\x01",
		"A", "a", "a\x00", "a\x00\x00", "a\x00\x01", "a\x00\xff", "a\x01", "a\x01\x00", "aa", "ab", "b", "z\u00e9",
		"\x7f", "\x80", "\xc3\xa9", "\xfe\xff", "\xff", "\xff\x00", "\xff\xfe", "\xff\xff",
		strings.Repeat("\x00", 64), strings.Repeat("\x00", 63), strings.Repeat("a", 64), strings.Repeat("\xff", 64),
	}
}

// oddNumbers are the least and the greatest numbers, and those at the edges of bytes.
func oddNumbers() []uint64 {
	return []uint64{0, 1, 2, 127, 128, 255, 256, 257, 65535, 65536, 1<<32 - 1, 1 << 32, 1<<48 - 1, 1 << 48, api.MaxSeq - 1, api.MaxSeq}
}

// oddEntries are all keys of these users and numbers, each put with a value of its own.
func oddEntries() []api.KV {
	var out []api.KV
	for _, user := range oddUsers() {
		for _, seq := range oddNumbers() {
			out = append(out, api.KV{Key: put(user, seq), Value: "value " + string(rune('a'+len(out)%26))})
			out = append(out, api.KV{Key: del(user, seq)})
		}
	}
	return out
}

func inOrder(entries []api.KV) []api.KV {
	return slices.SortedFunc(slices.Values(entries), func(x, y api.KV) int { return ikey.Compare(x.Key, y.Key) })
}

func sizeOf(entries []api.KV) int {
	n := 0
	for _, e := range entries {
		n += len(e.Key.User) + len(e.Value) + 16
	}
	return n
}

// knownOf is what entries tell at a number, by going through all of them.
func knownOf(entries []api.KV, user string, seq uint64) (string, int) {
	var first *api.KV
	for i, e := range entries {
		if e.Key.User == user && e.Key.Seq <= seq && (first == nil || ikey.Compare(e.Key, first.Key) < 0) {
			first = &entries[i]
		}
	}
	switch {
	case first == nil:
		return "", api.None
	case first.Key.Kind == api.Delete:
		return "", api.Deleted
	}
	return first.Value, api.There
}

// P8.2, P8.3, R7: all users, numbers and kinds at the edges stand in ikey.Compare's order, byte by byte; whatever the order of adding.
func TestOddKeys(t *testing.T) {
	entries := oddEntries()
	want := inOrder(entries)
	n := len(entries)
	for _, turn := range []struct{ step, from int }{{1, 0}, {n - 1, n - 1}, {5, 3}, {7, 0}, {101, 17}} {
		m := memtable.New()
		for i := range entries {
			e := entries[(turn.from+i*turn.step)%n]
			adds(t, m, e.Key, e.Value)
		}
		holds(t, m, sizeOf(entries), want...)
		for _, e := range entries {
			if err := m.Add(e.Key, e.Value); err != api.ErrMemSame {
				t.Errorf("Add(%s) again: %d", short(e.Key), err)
			}
		}
		holds(t, m, sizeOf(entries), want...)
		for _, user := range oddUsers() {
			for _, seq := range []uint64{0, 1, 3, 126, 200, 256, 300, 1 << 40, api.MaxSeq, 1 << 60, math.MaxUint64} {
				value, what := knownOf(entries, user, seq)
				knows(t, m, user, seq, value, what)
			}
		}
	}
}

// P8.2: a user that is not there is not taken for a neighbour that is.
func TestOddNeighbours(t *testing.T) {
	users := oddUsers()
	for _, there := range users {
		m := filled(t, api.KV{Key: put(there, 7), Value: "x"})
		for _, user := range users {
			if user != there {
				knows(t, m, user, 7, "", api.None)
				knows(t, m, user, api.MaxSeq, "", api.None)
			}
		}
		knows(t, m, there, 7, "x", api.There)
		knows(t, m, there, 6, "", api.None)
		holds(t, m, len(there)+17, api.KV{Key: put(there, 7), Value: "x"})
	}
}

// orders calls something for every order of entries.
func orders(entries []api.KV, from int, call func([]api.KV)) {
	if from == len(entries) {
		call(entries)
		return
	}
	for i := from; i < len(entries); i++ {
		entries[from], entries[i] = entries[i], entries[from]
		orders(entries, from+1, call)
		entries[from], entries[i] = entries[i], entries[from]
	}
}

// P8.3, P8.4: every order in which keys were added tells the same.
func TestEveryOrder(t *testing.T) {
	entries := []api.KV{
		{Key: put("a", 1), Value: "x"},
		{Key: del("a", 3)},
		{Key: put("a", 3), Value: "y"},
		{Key: put("a\x00", 2), Value: "zz"},
		{Key: del("", 9)},
		{Key: put("ab", 300)},
	}
	want := []api.KV{entries[4], entries[2], entries[1], entries[0], entries[3], entries[5]}
	orders(slices.Clone(entries), 0, func(turn []api.KV) {
		m := filled(t, turn...)
		holds(t, m, 6*16+7+4, want...)
		for _, user := range []string{"", "\x00", "a", "a\x00", "aa", "ab", "b"} {
			for seq := range uint64(12) {
				value, what := knownOf(entries, user, seq)
				knows(t, m, user, seq, value, what)
			}
		}
	})
}

// P8.3: of none, of one, and of more, one behind the other.
func TestAllAndSize(t *testing.T) {
	m := memtable.New()
	holds(t, m, 0)
	one := api.KV{Key: put("user", 7), Value: "value"}
	adds(t, m, one.Key, one.Value)
	holds(t, m, 4+5+16, one)
	two := api.KV{Key: del("user", 8)}
	adds(t, m, two.Key, two.Value)
	holds(t, m, 25+20, two, one)
	three := api.KV{Key: put("", api.MaxSeq), Value: strings.Repeat("v", 1000)}
	adds(t, m, three.Key, three.Value)
	holds(t, m, 45+1016, three, two, one)
	four := api.KV{Key: put(strings.Repeat("\xff", 64), 0)}
	adds(t, m, four.Key, four.Value)
	holds(t, m, 1061+80, three, two, one, four)
}

// P8.4: what is known at a number does not change by what is added with greater ones, whichever users they are of.
func TestGreaterNumbers(t *testing.T) {
	users := []string{"", "a", "a\x00", "ab", "b"}
	type asked struct {
		user string
		seq  uint64
	}
	type known struct {
		value string
		what  int
	}
	m := memtable.New()
	kept := map[asked]known{}
	for seq := range uint64(300) {
		for i, user := range users {
			switch (int(seq) + i*i) % 5 {
			case 0:
				adds(t, m, del(user, seq), "")
			case 1, 2:
				adds(t, m, put(user, seq), user+"'s")
			}
		}
		for _, user := range users {
			value, what := m.Get(user, seq)
			kept[asked{user, seq}] = known{value, what}
		}
		for q, k := range kept {
			if seq%20 == 19 || q.seq+3 > seq {
				knows(t, m, q.user, q.seq, k.value, k.what)
			}
		}
	}
}
