package skip_test

import (
	"slices"
	"strings"
	"testing"

	"staddle/api"
	"staddle/skip"
)

// R1: a nil list: ErrArg ahead of all else, and zero values where there is no error.
func TestNil(t *testing.T) {
	var l *skip.List
	for _, height := range []int{-1, 0, 1, 8, 9} {
		for _, key := range []string{"", "a"} {
			if n, err := l.Begin(key, height); n != 0 || err != api.ErrArg {
				t.Errorf("Begin(%q, %d): %d, %d", key, height, n, err)
			}
		}
	}
	for _, n := range []int{-1, 0, 1, 7, 8} {
		if done, err := l.Step(n); done || err != api.ErrArg {
			t.Errorf("Step(%d): %v, %d", n, done, err)
		}
		if keys := l.Keys(n); len(keys) != 0 {
			t.Errorf("Keys(%d): %q", n, keys)
		}
	}
	for _, key := range []string{"", "a"} {
		seeks(t, l, key, "", false)
		before(t, l, key, "", false)
	}
	ends(t, l, "", false)
}

// R1: a list that was not made by New has no room.
func TestHandMade(t *testing.T) {
	l := new(skip.List)
	refusesBegin(t, l, "a", 0, api.ErrSkipHeight)
	refusesBegin(t, l, "a", 1, api.ErrSkipFull)
	refusesBegin(t, l, "a", 1, api.ErrSkipFull)
	refusesStep(t, l, 0)
	refusesStep(t, l, -1)
	if x := tells(l); !same(x, told{}) {
		t.Errorf("the levels are %q", x)
	}
	reads(t, l, nil, "a")
}

// R4: what is answered is new memory, spare room too; an answer stays, whatever is done behind it.
func TestAnswersAreNew(t *testing.T) {
	l := fresh(t, 100)
	for i, key := range []string{"c", "a", "e", "b", "d"} {
		begins(t, l, key, 1+i, i)
		does(t, l, i)
	}
	want := tells(l)
	kept := tells(l)
	for level := range 8 {
		keys, other := l.Keys(level), l.Keys(level)
		for i := range keys[:cap(keys)] {
			keys[:cap(keys)][i] = "spoilt"
		}
		if grown := append(other, "more", "and more"); !slices.Equal(grown[:len(other)], want[level]) {
			t.Errorf("level %d: two answers share memory: %q", level, grown)
		}
	}
	if x := tells(l); !same(x, want) {
		t.Errorf("the levels became %q", x)
	}
	begins(t, l, "bb", 8, 5)
	does(t, l, 5)
	if !same(kept, want) {
		t.Errorf("an answer became %q", kept)
	}
	seeks(t, l, "bb", "bb", true)
}

// R4: a key that is made of bytes stays, whatever becomes of the bytes.
func TestKeysStay(t *testing.T) {
	l := fresh(t, 10)
	b := []byte("some bytes")
	begins(t, l, string(b), 2, 0)
	clear(b)
	does(t, l, 0)
	seeks(t, l, "", "some bytes", true)
	refusesBegin(t, l, strings.Repeat("some bytes", 1), 1, api.ErrSkipSame)
}

// R3: what was refused is not seen in any later step.
func TestRefusedLeavesNothing(t *testing.T) {
	run := func(refused bool) []told {
		l := fresh(t, 3)
		var out []told
		ask := func() {
			if refused {
				refusesStep(t, l, 3)
				refusesStep(t, l, -1)
				refusesBegin(t, l, "x", 0, api.ErrSkipHeight)
				refusesBegin(t, l, "x", 9, api.ErrSkipHeight)
			}
		}
		ask()
		for i, key := range []string{"b", "a", "c"} {
			begins(t, l, key, 2, i)
			ask()
			if refused {
				refusesBegin(t, l, key, 8, api.ErrSkipSame)
			}
		}
		for turn := range 60 {
			ask()
			if refused {
				refusesBegin(t, l, "x", 1, api.ErrSkipFull)
			}
			l.Step(turn * turn % 3)
			l.Step(turn % 3)
			out = append(out, tells(l))
		}
		return out
	}
	if !slices.EqualFunc(run(true), run(false), same) {
		t.Error("the steps are others where something was refused")
	}
}

// R5: the same calls tell the same, step by step; to read changes nothing.
func TestAgain(t *testing.T) {
	run := func(read bool) []told {
		l := fresh(t, 100)
		var out []told
		for i := range 40 {
			l.Begin(name(i*7%40), 1+i%8)
		}
		for turn := range 4000 {
			l.Step((turn*turn + turn/7) % 40)
			if read {
				l.Seek(name(turn % 50))
				l.Before(name(turn % 50))
				l.Last()
				l.Keys(turn % 9)
			}
			if turn%10 == 0 {
				out = append(out, tells(l))
			}
		}
		return out
	}
	first := run(false)
	for range 3 {
		if !slices.EqualFunc(first, run(false), same) {
			t.Error("the same calls told others")
		}
	}
	if !slices.EqualFunc(first, run(true), same) {
		t.Error("what was read changed what was told")
	}
}
