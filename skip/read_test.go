package skip_test

import (
	"math"
	"slices"
	"testing"

	"staddle/skip"
)

func seeks(t *testing.T, l *skip.List, key, want string, found bool) {
	t.Helper()
	if k, ok := l.Seek(key); k != want || ok != found {
		t.Errorf("Seek(%q): %q, %v, not %q, %v", key, k, ok, want, found)
	}
}

func before(t *testing.T, l *skip.List, key, want string, found bool) {
	t.Helper()
	if k, ok := l.Before(key); k != want || ok != found {
		t.Errorf("Before(%q): %q, %v, not %q, %v", key, k, ok, want, found)
	}
}

func ends(t *testing.T, l *skip.List, want string, found bool) {
	t.Helper()
	if k, ok := l.Last(); k != want || ok != found {
		t.Errorf("Last: %q, %v, not %q, %v", k, ok, want, found)
	}
}

// reads tells a fault if Seek, Before and Last tell anything else than these keys, that rise, do.
func reads(t *testing.T, l *skip.List, keys []string, key string) {
	t.Helper()
	less := 0
	for less < len(keys) && keys[less] < key {
		less++
	}
	first, found := pick(keys, less)
	seeks(t, l, key, first, found)
	prior, found := pick(keys, less-1)
	before(t, l, key, prior, found)
	last, found := pick(keys, len(keys)-1)
	ends(t, l, last, found)
}

func pick(keys []string, i int) (string, bool) {
	if i < 0 || i >= len(keys) {
		return "", false
	}
	return keys[i], true
}

// odd are keys with the edges of what bytes may be, some of which begin with others.
func odd() []string {
	return []string{"", "\x00", "\x00\x00", "\x00\xff", "\x01", "A", "a", "a\x00", "a\x00b", "aa", "ab", "b", "b\xff", "z\u00e9", "\x7f", "\x80", "\xc3", "\xc3\xa9", "\xfe\xff", "\xff", "\xff\x00", "\xff\xff"}
}

// P7.3: there is no key, whatever was begun.
func TestReadNothing(t *testing.T) {
	l := fresh(t, 5)
	none := func() {
		t.Helper()
		for _, key := range odd() {
			seeks(t, l, key, "", false)
			before(t, l, key, "", false)
		}
		ends(t, l, "", false)
		for level := -1; level <= 8; level++ {
			if keys := l.Keys(level); len(keys) != 0 {
				t.Errorf("Keys(%d): %q", level, keys)
			}
		}
	}
	none()
	begins(t, l, "a", 8, 0)
	begins(t, l, "", 1, 1)
	none()
}

// P7.3: levels that there are, at both ends, and that there are not.
func TestLevels(t *testing.T) {
	l := fresh(t, 10)
	for i, p := range []put{{"m", 8}, {"c", 1}, {"x", 7}, {"a", 8}} {
		begins(t, l, p.key, p.height, i)
		does(t, l, i)
	}
	for _, level := range []int{-1, 8, 9, -8, 1000, 1 << 32, math.MaxInt, math.MinInt} {
		if keys := l.Keys(level); len(keys) != 0 {
			t.Errorf("Keys(%d): %q", level, keys)
		}
	}
	if keys := l.Keys(0); !slices.Equal(keys, []string{"a", "c", "m", "x"}) {
		t.Errorf("Keys(0): %q", keys)
	}
	if keys := l.Keys(6); !slices.Equal(keys, []string{"a", "m", "x"}) {
		t.Errorf("Keys(6): %q", keys)
	}
	if keys := l.Keys(7); !slices.Equal(keys, []string{"a", "m"}) {
		t.Errorf("Keys(7): %q", keys)
	}
}

// P7.3: at a key, between two, ahead of all and behind all.
func TestReadPlaces(t *testing.T) {
	l := fresh(t, 10)
	for i, p := range []put{{"d", 1}, {"b", 3}, {"f", 2}} {
		begins(t, l, p.key, p.height, i)
		does(t, l, i)
	}
	for _, c := range []struct {
		key           string
		first, prior  string
		isFirst, prev bool
	}{
		{"", "b", "", true, false},
		{"a", "b", "", true, false},
		{"b", "b", "", true, false},
		{"b\x00", "d", "b", true, true},
		{"c", "d", "b", true, true},
		{"cc", "d", "b", true, true},
		{"d", "d", "b", true, true},
		{"e", "f", "d", true, true},
		{"f", "f", "d", true, true},
		{"f\x00", "", "f", false, true},
		{"g", "", "f", false, true},
		{"\xff", "", "f", false, true},
	} {
		seeks(t, l, c.key, c.first, c.isFirst)
		before(t, l, c.key, c.prior, c.prev)
	}
	ends(t, l, "f", true)
}

// P7.3, R7: byte by byte, the empty key and all bytes; heights are not seen in it.
func TestReadBytes(t *testing.T) {
	keys := odd()
	for turn := range len(keys) {
		l := fresh(t, 100)
		var there []string
		for i := range keys {
			key := keys[(i*5+turn)%len(keys)]
			begins(t, l, key, 1+(i*i+turn)%8, i)
			does(t, l, i)
			there = append(there, key)
			slices.Sort(there)
			if got := l.Keys(0); !slices.Equal(got, there) {
				t.Fatalf("Keys(0): %q, not %q", got, there)
			}
			for _, key := range keys {
				reads(t, l, there, key)
			}
		}
	}
}

// P7.3: what is found is the empty key, and not that there is none.
func TestEmptyKey(t *testing.T) {
	l := fresh(t, 2)
	begins(t, l, "", 2, 0)
	does(t, l, 0)
	seeks(t, l, "", "", true)
	seeks(t, l, "\x00", "", false)
	before(t, l, "", "", false)
	before(t, l, "\x00", "", true)
	ends(t, l, "", true)
	begins(t, l, "a", 1, 1)
	does(t, l, 1)
	seeks(t, l, "", "", true)
	seeks(t, l, "\x00", "a", true)
	before(t, l, "a", "", true)
	ends(t, l, "a", true)
}

// P7.3: level 0 alone counts, also while operations are not done: those whose keys are in it, and those whose are not.
func TestReadMeanwhile(t *testing.T) {
	for _, height := range []int{1, 2, 8} {
		w := watch(t, 10, []put{{"b", 2}, {"d", 1}, {"c", height}, {"a", height}, {"e", height}})
		w.run(0)
		w.run(1)
		for _, op := range []int{2, 3, 4} {
			for done := false; !done; {
				done = w.step(op)
				for _, key := range []string{"", "a", "aa", "b", "bb", "c", "cc", "d", "dd", "e", "ee"} {
					reads(t, w.l, w.l.Keys(0), key)
				}
			}
		}
		w.ends()
	}
}
