package sstable_test

import (
	"math"
	"slices"
	"testing"

	"staddle/api"
)

// aside are users ahead of, between and behind those of entries, and these too.
func aside(l []api.KV) []string {
	users := []string{"", "\x00", "\xff", text(64), text(65), "u", text(5000)}
	for _, e := range l {
		u := e.Key.User
		users = append(users, u, u+"\x00", u+"a", u+"\xff")
		if len(u) > 0 {
			users = append(users, u[:len(u)-1], u[:len(u)-1]+string([]byte{u[len(u)-1] - 1, 0xff}))
		}
	}
	slices.Sort(users)
	return slices.Compact(users)
}

// numbersAside are numbers above, at and below each entry's, and the greatest.
func numbersAside(l []api.KV) []uint64 {
	numbers := []uint64{0, 1, topSeq - 1, topSeq, topSeq + 1, 1 << 56, 1 << 63, math.MaxUint64}
	for _, e := range l {
		numbers = append(numbers, e.Key.Seq-1, e.Key.Seq, e.Key.Seq+1)
	}
	slices.Sort(numbers)
	return slices.Compact(numbers)
}

// asked tells a fault if a table answers otherwise than entries tell, for users and numbers at and aside of theirs.
func asked(t testing.TB, b []byte, l []api.KV) {
	t.Helper()
	x := opens(t, b)
	numbers := numbersAside(l)
	for _, user := range aside(l) {
		for _, seq := range numbers {
			value, what := known(l, user, seq)
			gets(t, x, user, seq, value, what)
		}
	}
}

// P12.5: ahead of all keys, at each, between two of them and two blocks, behind all; at each number and beside it; with a filter and with one that rules nothing out.
func TestGetEverywhere(t *testing.T) {
	lists := [][]api.KV{
		numbered(1),
		numbered(12),
		numbered(31),
		{put("a", topSeq, "top"), put("a", 0, "least"), del("b", topSeq), del("b", 0)},
		{put("a", 3, "three"), del("a", 3), put("a", 2, ""), del("a", 1), put("a", 0, "0")},
		{put("", 7, "none"), del("", 3), put("\x00", 5, "zero"), put("\x00\x00", 5, "zeros"), put("\xff", 1, "ff"), put("\xff\xff", 1, "ffff")},
		{put(text(64), 2, text(1000)), del(text(64), 1)},
	}
	for _, l := range lists {
		for _, size := range []int{1, 30, 45, 60, 100, 65536} {
			for _, interval := range []int{1, 2, 16} {
				m := laid(l, api.Options{Block: size, Interval: interval, Bits: 10})
				asked(t, m.bytes(), l)
				m.filter = nil
				asked(t, m.bytes(), l)
			}
		}
	}
}

// P12.5: a number above MaxSeq is as MaxSeq, also where the user's entries go on in the next block.
func TestNumbersAboveTheGreatest(t *testing.T) {
	l := []api.KV{put("a", topSeq, "x"), del("b", topSeq), put("b", topSeq-1, "y"), put("c", 1, "z")}
	for _, size := range []int{1, 65536} {
		x := opens(t, builds(t, l, api.Options{Block: size, Interval: 1, Bits: 10}))
		for _, seq := range []uint64{topSeq, topSeq + 1, 1 << 57, 1 << 63, math.MaxUint64 - 1, math.MaxUint64} {
			gets(t, x, "a", seq, "x", api.There)
			gets(t, x, "b", seq, "", api.Deleted)
			gets(t, x, "c", seq, "z", api.There)
		}
		gets(t, x, "a", topSeq-1, "", api.None)
		gets(t, x, "b", topSeq-1, "y", api.There)
	}
}

// P12.5: of two entries of one number that which puts is told, it is first; what deletes has no value, also where one was laid beside it.
func TestKinds(t *testing.T) {
	l := []api.KV{put("a", 2, "x"), del("a", 2), {Key: api.IKey{User: "b", Seq: 2}, Value: "beside"}}
	for _, size := range []int{1, 65536} {
		b := builds(t, l, api.Options{Block: size, Interval: 2, Bits: 10})
		x := opens(t, b)
		holds(t, x, l)
		for seq, what := range map[uint64]int{1: api.None, 2: api.There, 3: api.There, 9: api.There} {
			value, _ := known(l, "a", seq)
			gets(t, x, "a", seq, value, what)
		}
		gets(t, x, "b", 2, "", api.Deleted)
		gets(t, x, "b", 1, "", api.None)
	}
}

// P12.5: an empty value is there.
func TestEmptyValue(t *testing.T) {
	x := opens(t, builds(t, []api.KV{put("a", 1, ""), put("b", 1, "\x00")}, usual))
	gets(t, x, "a", 1, "", api.There)
	gets(t, x, "b", 1, "\x00", api.There)
}

// P12.5: a user that the filter rules out is not looked for, also where it is there, or its block is damaged.
func TestFilterRulesOut(t *testing.T) {
	l := numbered(12)
	m := laid(l, usual)
	m.filter = append(make([]byte, 100), 6)
	b := m.bytes()
	for _, i := range []int{0, len(m.blocks[0]) + 4, len(m.blocks[0]) + len(m.blocks[1]) + 8} {
		b[i] ^= 1
	}
	x := opens(t, b)
	for _, user := range aside(l) {
		for _, seq := range []uint64{0, 50, 90, math.MaxUint64} {
			gets(t, x, user, seq, "", api.None)
		}
	}
	broken(t, "the filter is not asked", x, api.ErrTableSum)
	// One that rules out but one user.
	m.filter = filterOf(slices.Repeat([]api.KV{l[3]}, 20), 10)
	for i := 0; i < len(l); i += 3 {
		x := opens(t, m.bytes())
		if i == 3 {
			gets(t, x, l[i].Key.User, 90, l[i].Value, api.There)
		} else {
			gets(t, x, l[i].Key.User, 90, "", api.None)
		}
	}
}

// P12.5: no other block is looked at than that of the first key of the index that is not ahead.
func TestOneBlockIsLookedAt(t *testing.T) {
	a, b, c, d := put("a", 5, "1"), put("b", 5, "2"), put("c", 5, "3"), put("d", 5, "4")
	x := opens(t, handMade(1, []api.KV{a, c}, []api.KV{b, d}).bytes())
	gets(t, x, "a", 5, "1", api.There)
	gets(t, x, "b", 5, "", api.None)
	gets(t, x, "c", 5, "3", api.There)
	gets(t, x, "d", 5, "4", api.There)
	// The second block has another one of the user that the first one ends with.
	x = opens(t, handMade(1, []api.KV{a, b}, []api.KV{put("b", 9, "newer"), c}).bytes())
	gets(t, x, "b", 9, "2", api.There)
	gets(t, x, "b", 5, "2", api.There)
	gets(t, x, "b", 4, "", api.None)
	// The block of the first such key begins with another user: the blocks behind it are not asked.
	x = opens(t, handMade(1, []api.KV{a}, []api.KV{c}, []api.KV{b, d}).bytes())
	gets(t, x, "b", 5, "", api.None)
}

// P12.5, P12.6: with a damaged block just those users and numbers are answered by its error that are looked for in it; all others are answered as ever.
func TestDamagedBlock(t *testing.T) {
	l := numbered(31)
	for _, size := range []int{1, 45, 60, 100, 65536} {
		o := api.Options{Block: size, Interval: 2, Bits: 10}
		m := laid(l, o)
		m.filter = nil
		lists := parted(l, o)
		at := 0
		for i := range m.blocks {
			b := m.bytes()
			b[at+len(m.blocks[i])/2] ^= 0x10
			damagedAt(t, b, l, lists, i)
			at += len(m.blocks[i]) + 4
		}
	}
}

// damagedAt tells a fault if a table of lists, of which one is damaged, answers otherwise than the document says.
func damagedAt(t *testing.T, b []byte, l []api.KV, lists [][]api.KV, damaged int) {
	t.Helper()
	x := opens(t, b)
	if n := x.Blocks(); n != len(lists) {
		t.Errorf("%d blocks, not %d", n, len(lists))
	}
	broken(t, "a damaged block", x, api.ErrTableSum)
	for _, user := range aside(l) {
		for _, seq := range []uint64{0, 49, 50, 51, 69, 70, 71, 89, 90, 91, math.MaxUint64} {
			block := 0
			for block < len(lists) && behind(user, seq, lists[block][len(lists[block])-1].Key) {
				block++
			}
			if block == damaged {
				fails(t, x, user, seq, api.ErrTableSum)
			} else {
				value, what := known(l, user, seq)
				gets(t, x, user, seq, value, what)
			}
		}
	}
}

// behind tells whether a user at a number is behind a key.
func behind(user string, seq uint64, k api.IKey) bool {
	if user != k.User {
		return user > k.User
	}
	return seq < k.Seq
}

// P12.6: what is laid is read, and asked, entry by entry.
func TestWhatIsLaidIsAsked(t *testing.T) {
	for n := 1; n < 60; n++ {
		l := numbered(n)
		for _, o := range []api.Options{usual, {Block: 1, Interval: 1, Bits: 1}, {Block: 200, Interval: 16, Bits: 50}} {
			x := opens(t, builds(t, l, o))
			holds(t, x, l)
			for _, e := range l {
				if e.Key.Kind == api.Delete {
					gets(t, x, e.Key.User, e.Key.Seq, "", api.Deleted)
				} else {
					gets(t, x, e.Key.User, e.Key.Seq, e.Value, api.There)
				}
			}
		}
	}
}
