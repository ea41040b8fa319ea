package edit_test

import (
	"bytes"
	"slices"
	"sync"
	"testing"

	"staddle/api"
	"staddle/edit"
)

// spoil writes over all that a list has, its spare room too.
func spoil[T any](l []T, with T) {
	all := l[:cap(l)]
	for i := range all {
		all[i] = with
	}
}

var (
	badGone = api.Gone{Level: 9, Num: 99}
	badFile = api.File{Level: 9, Num: 99, Size: 9, Small: api.IKey{User: "spoilt"}, Large: api.IKey{User: "spoilt"}}
)

// roomy is an edit whose lists have spare room, and the whole of both lists.
func roomy(x api.Edit, spare int) (api.Edit, []api.Gone, []api.File) {
	gone := append(slices.Clone(x.Dels), slices.Repeat([]api.Gone{badGone}, spare)...)
	added := append(slices.Clone(x.Adds), slices.Repeat([]api.File{badFile}, spare)...)
	x.Dels, x.Adds = gone[:len(x.Dels)], added[:len(x.Adds)]
	return x, gone, added
}

// R4: Check and Encode neither change nor keep what they are handed, its spare room included; Encode's answer is new memory.
func TestEncodeIsNewMemory(t *testing.T) {
	for what, x := range some() {
		for _, spare := range []int{0, 1, 20} {
			handed, gone, added := roomy(x, spare)
			wasGone, wasAdded := slices.Clone(gone), slices.Clone(added)
			if err := edit.Check(handed); err != api.OK {
				t.Errorf("%s: %d", what, err)
			}
			first, _ := edit.Encode(handed)
			second, _ := edit.Encode(handed)
			spoil(first, 0x33)
			_ = append(first, "more bytes than there is spare room for, perhaps"...)
			if !slices.Equal(gone, wasGone) || !slices.Equal(added, wasAdded) {
				t.Errorf("%s: what was handed in is changed", what)
			}
			spoil(gone, badGone)
			spoil(added, badFile)
			if !bytes.Equal(second, laid(x)) {
				t.Errorf("%s: what was handed in is kept, or answers share memory", what)
			}
		}
	}
}

// R4: an edit that is refused is not changed either.
func TestRefusedEditStays(t *testing.T) {
	for _, f := range faults() {
		x := whole()
		f.spoil(&x)
		handed, gone, added := roomy(x, 5)
		wasGone, wasAdded := slices.Clone(gone), slices.Clone(added)
		edit.Check(handed)
		edit.Encode(handed)
		if !slices.Equal(gone, wasGone) || !slices.Equal(added, wasAdded) {
			t.Errorf("%s: what was handed in is changed", f.what)
		}
	}
}

// R4: Decode neither changes nor keeps the bytes that it is handed, their spare room included; its lists are new memory, and share none.
func TestDecodeIsNewMemory(t *testing.T) {
	for what, x := range some() {
		for _, spare := range []int{0, 1, 9, 100} {
			room := append(laid(x), bytes.Repeat([]byte{7}, spare)...)
			b := room[:len(room)-spare]
			was := slices.Clone(room)
			first, _ := edit.Decode(b)
			second, _ := edit.Decode(b)
			if !bytes.Equal(room, was) {
				t.Errorf("%s: what was handed in is changed", what)
			}
			spoil(first.Dels, badGone)
			_ = append(first.Dels, badGone)
			if !slices.Equal(first.Adds, x.Adds) {
				t.Errorf("%s: the lists of one answer share memory", what)
			}
			spoil(first.Adds, badFile)
			_ = append(first.Adds, badFile)
			spoil(room, 0x33)
			if !alike(second, x) {
				t.Errorf("%s: what was handed in is kept, or answers share memory", what)
			}
		}
	}
}

// R4: bytes that are refused are not changed either.
func TestRefusedBytesStay(t *testing.T) {
	for what, x := range some() {
		room := append(laid(x), 1, 2, 3)
		was := slices.Clone(room)
		none(t, what, room)
		none(t, what, room[:len(room)-4])
		if !bytes.Equal(room, was) {
			t.Errorf("%s: what was handed in is changed", what)
		}
	}
}

// R5: a call answers the same, whatever was asked before, errors among it; a capacity is not seen.
func TestAgain(t *testing.T) {
	for range 3 {
		for what, x := range some() {
			edit.Decode(nil)
			edit.Decode([]byte{0, 0, 0, 2, 1, 1})
			edit.Check(adds(badFile))
			edit.Encode(dels(badGone))
			may(t, what, x)
			for _, room := range []int{0, 1, 4, 1000} {
				handed, _, _ := roomy(x, room)
				may(t, what, handed)
				b := laid(x)
				held := slices.Concat(make([]byte, room), b, make([]byte, room))
				reads(t, what, held[room:room+len(b)], x)
			}
		}
	}
}

// R5: what is asked at once is answered as by itself.
func TestAskedAtOnce(t *testing.T) {
	all := some()
	var asked sync.WaitGroup
	for range 8 {
		asked.Go(func() {
			for what, x := range all {
				may(t, what, x)
				none(t, what, append(laid(x), 0))
			}
		})
	}
	asked.Wait()
}
