package block_test

import (
	"bytes"
	"slices"
	"sync"
	"testing"

	"staddle/api"
	"staddle/block"
)

// scribble writes over all that a list has, its spare room too.
func scribble(b []byte) {
	all := b[:cap(b)]
	for i := range all {
		all[i] = 0x33
	}
}

// R4: Build neither changes nor keeps the entries that it is handed, their spare room included; its answer is new memory.
func TestBuildIsNewMemory(t *testing.T) {
	for _, n := range []int{0, 1, 2, 15, 16, 17, 40} {
		for _, spare := range []int{0, 1, 20} {
			for _, interval := range []int{1, 3, 16} {
				room := numbered(n + spare)
				l := room[:n]
				was := slices.Clone(room)
				want := laid(l, interval)
				first, second := builds(t, l, interval), builds(t, l, interval)
				refuses(t, "an interval", l, 17, api.ErrArg)
				scribble(first)
				_ = append(first, "more bytes than there is spare room for, perhaps"...)
				if !slices.Equal(room, was) {
					t.Errorf("%d entries: what was handed in is changed", n)
				}
				for i := range room {
					room[i] = put("spoilt", 1, "spoilt")
				}
				if !bytes.Equal(second, want) {
					t.Errorf("%d entries: what was handed in is kept, or answers share memory", n)
				}
			}
		}
	}
}

// R4: Open neither changes nor keeps the bytes that it is handed, their spare room included.
func TestOpenKeepsNothing(t *testing.T) {
	for _, l := range append(small(), numbered(40)) {
		for _, interval := range []int{1, 3, 16} {
			for _, spare := range []int{0, 1, 9, 100} {
				b := append(laid(l, interval), bytes.Repeat([]byte{1}, spare)...)
				was := slices.Clone(b[:cap(b)])
				handed := b[:len(b)-spare]
				x, y := opens(t, handed), opens(t, handed)
				holds(t, x, l)
				if !bytes.Equal(b[:cap(b)], was) {
					t.Error("what was handed in is changed")
				}
				scribble(b)
				holds(t, x, l)
				holds(t, y, l)
				for i, e := range l {
					finds(t, x, e.Key, i)
				}
			}
		}
	}
}

// R4: bytes that are none are not changed either.
func TestRefusedBytesStay(t *testing.T) {
	for _, l := range small() {
		b := append(laid(l, 2), 0, 7, 7, 7)
		was := slices.Clone(b)
		closed(t, "a byte behind", b[:len(b)-3])
		if !bytes.Equal(b, was) {
			t.Error("what was handed in is changed")
		}
	}
}

// R5: a block tells the same, whatever was asked of it or of others before.
func TestAgain(t *testing.T) {
	l := numbered(40)
	x := opens(t, builds(t, l, 5))
	for i := range 50 {
		other := opens(t, builds(t, l[:i%40], 1+i%16))
		other.At(i)
		other.Find(l[i%40].Key)
		block.Open(nil)
		block.Build(l, 99)
		x.At(-i)
		x.At(i + 40)
		x.Find(api.IKey{User: text(i)})
		holds(t, x, l)
		finds(t, x, l[i%40].Key, i%40)
	}
}

// R3, R5: asking changes nothing, so that many may ask one block at once.
func TestAskedAtOnce(t *testing.T) {
	l := numbered(60)
	x := opens(t, builds(t, l, 7))
	var all sync.WaitGroup
	for range 8 {
		all.Go(func() {
			for i, want := range l {
				if e, err := x.At(i); e != want || err != api.OK {
					t.Errorf("At(%d): %v, %d", i, e, err)
				}
				finds(t, x, want.Key, i)
			}
		})
	}
	all.Wait()
}
