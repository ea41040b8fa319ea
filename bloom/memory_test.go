package bloom_test

import (
	"bytes"
	"math"
	"slices"
	"testing"

	"staddle/bloom"
)

// R4: Build neither changes nor keeps the keys that it is handed, their spare room included.
func TestBuildChangesNothing(t *testing.T) {
	for _, n := range []int{0, 1, 6, 7, 40} {
		for _, spare := range []int{0, 1, 9} {
			room := numbered(n + spare)
			keys := room[:n]
			was := slices.Clone(room)
			want := buildPlainly(keys, 10)
			filter := builds(t, keys, 10)
			refuses(t, keys, 51)
			if !slices.Equal(room, was) {
				t.Errorf("%d keys: what was handed in is changed", n)
			}
			for i := range room {
				room[i] = "spoilt"
			}
			if !bytes.Equal(filter, want) {
				t.Errorf("%d keys: what was handed in is kept, or its spare room is seen", n)
			}
		}
	}
}

// R4: no two filters share memory, spare room too.
func TestFiltersShareNothing(t *testing.T) {
	for _, keys := range [][]string{nil, {"a"}, numbered(7), numbered(300)} {
		want := buildPlainly(keys, 10)
		first, second := builds(t, keys, 10), builds(t, keys, 10)
		all := first[:cap(first)]
		for i := range all {
			all[i] = 0x33
		}
		_ = append(first, 1, 2, 3)
		if !bytes.Equal(second, want) {
			t.Errorf("%d keys: two filters share memory", len(keys))
		}
		buildsAs(t, keys, 10, want)
	}
}

// R4: May neither changes a filter nor sees the room behind it.
func TestMayChangesNothing(t *testing.T) {
	for _, keys := range [][]string{nil, {"a"}, numbered(7), numbered(300)} {
		filter := builds(t, keys, 10)
		for _, spare := range []byte{0, 1, 6, 31, 0xff} {
			room := append(slices.Clone(filter), spare, spare, spare)
			was := slices.Clone(room)
			for _, key := range append(numbered(20), "", "a") {
				mays(t, room[:len(filter)], key, mayPlainly(filter, key))
			}
			if !bytes.Equal(room, was) {
				t.Error("what was handed in is changed")
			}
		}
	}
	for _, last := range []byte{0, 1, 6, 31} {
		room := []byte{0xff, last, 0, 0, 0, 0, 0, 0, 6}
		mays(t, room[:0], "a", true)
		mays(t, room[:1], "a", true)
		mays(t, room[:2], "a", true)
	}
}

// R5: the same arguments are answered the same, whatever was asked between.
func TestAgain(t *testing.T) {
	want := builds(t, numbered(30), 10)
	for _, bits := range []float64{math.NaN(), -1, 0.2, 10, 43, 50, 51} {
		for _, keys := range [][]string{nil, {"a"}, numbered(31)} {
			bloom.Build(keys, bits)
			bloom.May(want, "k31")
			bloom.Hash("k31")
			buildsAs(t, numbered(30), 10, want)
			hashesPlainly(t, "k3")
			mays(t, want, "k3", true)
			mays(t, want, "stranger", mayPlainly(want, "stranger"))
		}
	}
}
