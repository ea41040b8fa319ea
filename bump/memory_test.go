package bump_test

import (
	"bytes"
	"testing"

	"staddle/api"
	"staddle/bump"
)

// R1: a nil arena: ErrArg ahead of all else, and zero values beside it.
func TestNil(t *testing.T) {
	var a *bump.Arena
	for _, n := range []int{-1, 0, 1, 100000} {
		if at, err := a.Alloc(n); at != 0 || err != api.ErrArg {
			t.Errorf("Alloc(%d): %d, %d", n, at, err)
		}
		for _, b := range [][]byte{nil, {}, {1}} {
			if err := a.Put(n, b); err != api.ErrArg {
				t.Errorf("Put(%d): %d", n, err)
			}
		}
		for _, at := range []int{-1, 0, 1} {
			if b, err := a.Get(at, n); len(b) != 0 || err != api.ErrArg {
				t.Errorf("Get(%d, %d): %d, %d", at, n, b, err)
			}
		}
		if x, err := a.Load(n); x != 0 || err != api.ErrArg {
			t.Errorf("Load(%d): %d, %d", n, x, err)
		}
		if err := a.Store(n, 1); err != api.ErrArg {
			t.Errorf("Store(%d): %d", n, err)
		}
		if done, err := a.Cas(n, 0, 1); done || err != api.ErrArg {
			t.Errorf("Cas(%d): %v, %d", n, done, err)
		}
	}
	if cell, err := a.Cell(); cell != 0 || err != api.ErrArg {
		t.Errorf("Cell: %d, %d", cell, err)
	}
	uses(t, a, 0)
}

// R1: an arena that was not made by New has no room.
func TestHandMade(t *testing.T) {
	a := new(bump.Arena)
	refusesAlloc(t, a, 0, api.ErrArg)
	refusesAlloc(t, a, 1, api.ErrBumpFull)
	refusesCell(t, a)
	refusesPut(t, a, 0, []byte{1})
	refusesGet(t, a, 0, 1)
	puts(t, a, 0, "")
	gets(t, a, 0, "")
	holds(t, a)
}

// R4: bytes that are handed in are neither changed nor kept, their spare room included.
func TestPutKeepsNothing(t *testing.T) {
	a := given(t, 40, 20)
	whole := []byte("some bytes, and spare room")
	was := bytes.Clone(whole)
	for _, at := range []int{0, 5, 10} {
		if err := a.Put(at, whole[:10]); err != api.OK {
			t.Fatalf("Put(%d): %d", at, err)
		}
	}
	refusesPut(t, a, 11, whole[:10])
	puts(t, a, 0, "others")
	if !bytes.Equal(whole, was) {
		t.Errorf("it became %q", whole)
	}
	clear(whole)
	gets(t, a, 0, "othersome some bytes")
}

// R4: what is answered is new memory, spare room too, also where nothing or all was asked for.
func TestGetIsNew(t *testing.T) {
	a := given(t, 40, 20)
	puts(t, a, 0, "0123456789abcdefghij")
	for at := range 21 {
		for n := range 21 - at {
			b, _ := a.Get(at, n)
			other, _ := a.Get(at, n)
			kept := string(other)
			for i := range b[:cap(b)] {
				b[:cap(b)][i] = '!'
			}
			if string(other) != kept {
				t.Errorf("two answers share memory: %q", other)
			}
			if grown := append(other, "???"...); string(grown[:n]) != kept {
				t.Errorf("%q became %q", kept, grown[:n])
			}
		}
	}
	gets(t, a, 0, "0123456789abcdefghij")
	allocs(t, a, 20, 20)
	gets(t, a, 20, string(make([]byte, 20)))
}

// R4: an answer stays, whatever is laid anew; and it may be laid elsewhere.
func TestGetStays(t *testing.T) {
	a := given(t, 20, 10)
	puts(t, a, 0, "0123456789")
	b, _ := a.Get(2, 5)
	puts(t, a, 0, "          ")
	if string(b) != "23456" {
		t.Errorf("it became %q", b)
	}
	puts(t, a, 3, string(b))
	gets(t, a, 0, "   23456  ")
}

// R5: an arena that was copied goes its own way, and so does the first one.
func TestCopied(t *testing.T) {
	for cells := range 10 {
		a := given(t, 200, 10)
		for i := range cells {
			makes(t, a, i)
		}
		c := *a
		makes(t, a, cells)
		makes(t, &c, cells)
		stores(t, a, cells, 5)
		puts(t, a, 0, "abc")
		allocs(t, a, 7, 18+8*cells)
		want := told{used: 18 + 8*cells, bytes: string(make([]byte, 18+8*cells)), cells: make([]int, cells+1)}
		if x := tells(t, &c); !same(x, want) {
			t.Errorf("with %d cells, the copy: %v", cells, x)
		}
	}
}
