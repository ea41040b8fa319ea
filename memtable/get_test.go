package memtable_test

import (
	"math"
	"strings"
	"testing"

	"staddle/api"
	"staddle/memtable"
)

// P8.2: below all numbers, at one, between two, and above all; a user that is not there.
func TestGetPlaces(t *testing.T) {
	m := filled(t,
		api.KV{Key: put("b", 10), Value: "ten"},
		api.KV{Key: put("b", 20), Value: "twenty"},
		api.KV{Key: del("b", 30)},
		api.KV{Key: put("b", 40)},
		api.KV{Key: put("a", 15), Value: "other"},
		api.KV{Key: del("c", 5)},
	)
	for _, c := range []struct {
		seq   uint64
		value string
		what  int
	}{
		{0, "", api.None}, {9, "", api.None},
		{10, "ten", api.There}, {11, "ten", api.There}, {19, "ten", api.There},
		{20, "twenty", api.There}, {29, "twenty", api.There},
		{30, "", api.Deleted}, {39, "", api.Deleted},
		{40, "", api.There}, {41, "", api.There}, {255, "", api.There}, {256, "", api.There},
		{api.MaxSeq - 1, "", api.There}, {api.MaxSeq, "", api.There}, {api.MaxSeq + 1, "", api.There},
		{1 << 57, "", api.There}, {1 << 63, "", api.There}, {math.MaxUint64, "", api.There},
	} {
		knows(t, m, "b", c.seq, c.value, c.what)
	}
	for _, user := range []string{"", "B", "aa", "a\x00", "ab", "b\x00", "bb", "d", "\x00", "\xff", strings.Repeat("b", 64), strings.Repeat("b", 65), strings.Repeat("\x00", 100000)} {
		for _, seq := range []uint64{0, 5, 15, 40, api.MaxSeq, math.MaxUint64} {
			knows(t, m, user, seq, "", api.None)
		}
	}
	knows(t, m, "a", 14, "", api.None)
	knows(t, m, "a", 15, "other", api.There)
	knows(t, m, "c", 4, "", api.None)
	knows(t, m, "c", 5, "", api.Deleted)
	knows(t, m, "c", math.MaxUint64, "", api.Deleted)
}

// P8.2: of a put and a delete of one number the put is first in order, whichever was added first.
func TestGetOneNumber(t *testing.T) {
	both := []api.KV{{Key: put("a", 5), Value: "x"}, {Key: del("a", 5)}}
	for turn := range 2 {
		m := filled(t, both[turn], both[1-turn])
		knows(t, m, "a", 4, "", api.None)
		knows(t, m, "a", 5, "x", api.There)
		knows(t, m, "a", 6, "x", api.There)
		adds(t, m, del("a", 6), "")
		knows(t, m, "a", 5, "x", api.There)
		knows(t, m, "a", 6, "", api.Deleted)
		adds(t, m, put("a", 6), "")
		knows(t, m, "a", 6, "", api.There)
		holds(t, m, 4*17+1, api.KV{Key: put("a", 6)}, api.KV{Key: del("a", 6)}, both[0], both[1])
	}
}

// P8.2: an empty value is there, and is not the same as none or as a delete.
func TestGetEmptyValue(t *testing.T) {
	m := filled(t, api.KV{Key: put("", 0)})
	knows(t, m, "", 0, "", api.There)
	knows(t, m, "", 1, "", api.There)
	adds(t, m, del("", 1), "")
	knows(t, m, "", 0, "", api.There)
	knows(t, m, "", 1, "", api.Deleted)
	knows(t, m, "\x00", 1, "", api.None)
}

// P8.2, R7: values are any bytes.
func TestGetBytes(t *testing.T) {
	m := memtable.New()
	values := []string{"\x00", "\x00\x01", "\x00\x00", "\xff", "\xff\xff", "\x80\xc3", "z\u00e9", strings.Repeat("\x00", 1000)}
	for i, value := range values {
		adds(t, m, put("a", uint64(i)), value)
	}
	for i, value := range values {
		knows(t, m, "a", uint64(i), value, api.There)
	}
}

// P8.2: at the greatest numbers.
func TestGetGreatest(t *testing.T) {
	m := filled(t, api.KV{Key: put("a", api.MaxSeq-1), Value: "x"}, api.KV{Key: del("a", api.MaxSeq)})
	knows(t, m, "a", api.MaxSeq-2, "", api.None)
	knows(t, m, "a", api.MaxSeq-1, "x", api.There)
	knows(t, m, "a", api.MaxSeq, "", api.Deleted)
	knows(t, m, "a", api.MaxSeq+1, "", api.Deleted)
	knows(t, m, "a", 1<<56+5, "", api.Deleted)
	knows(t, m, "a", math.MaxUint64, "", api.Deleted)
	adds(t, m, put("a", api.MaxSeq), "y")
	knows(t, m, "a", api.MaxSeq, "y", api.There)
	knows(t, m, "a", math.MaxUint64, "y", api.There)
}
