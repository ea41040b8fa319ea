package simfs_test

import (
	"bytes"
	"slices"
	"testing"

	"staddle/simfs"
)

// R4: bytes that are handed in are neither changed nor kept, their spare room included.
func TestAppendKeepsNothing(t *testing.T) {
	f := fresh(t, 100)
	whole := []byte("some bytes, and spare room")
	was := bytes.Clone(whole)
	ok(t, f.Create("a"), f.Append("a", whole[:10]), f.Append("a", whole[:4]), f.Append("a", []byte("more")))
	ok(t, f.Damage("a", 0, 0xff), f.Damage("a", 0, 0xff))
	f.Append("a", whole[:0])
	f.Crash([]int{1, 100})
	ok(t, f.Create("b"), f.Append("b", whole[:1]))
	f.Crash(nil)
	f.Crash([]int{0, 3})
	if !bytes.Equal(whole, was) {
		t.Errorf("it became %q", whole)
	}
	g := fresh(t, 100)
	ok(t, g.Create("a"), g.Append("a", whole[:10]))
	c := g.Copy()
	clear(whole)
	holds(t, g, files{"a": "some bytes"})
	holds(t, c, files{"a": "some bytes"})
}

// R4: picks stay as they are, their spare room included, and are not kept.
func TestPicksStay(t *testing.T) {
	f := begun(t)
	picks := []int{1, -1, 5, 7}
	f.Crash(picks[:2])
	if !slices.Equal(picks, []int{1, -1, 5, 7}) {
		t.Errorf("they became %d", picks)
	}
	clear(picks)
	ok(t, f.Append("a", []byte("z")))
	f.Crash(picks)
	holds(t, f, files{"a": "xy"})
}

// R4: what is answered is new memory, spare room too.
func TestAnswersAreNew(t *testing.T) {
	f := laid(t, 100, files{"a": "some bytes", "b": "", "c": "others"})
	c := f.Copy()
	ok(t, f.Append("a", []byte(", and more")), f.Create("d"))
	want := files{"a": "some bytes, and more", "b": "", "c": "others", "d": ""}
	spoil := func(g *simfs.FS) {
		list, _ := g.List()
		for _, name := range list {
			b, _ := g.Read(name)
			other, _ := g.Read(name)
			kept := bytes.Clone(other)
			for i := range b[:cap(b)] {
				b[:cap(b)][i] ^= 0xff
			}
			if !bytes.Equal(other, kept) {
				t.Errorf("two answers share memory: %q", other)
			}
		}
		other, _ := g.List()
		clear(list[:cap(list)])
		if slices.Contains(other, "") {
			t.Errorf("two answers share memory: %q", other)
		}
	}
	spoil(f)
	spoil(c)
	holds(t, f, want)
	holds(t, c, files{"a": "some bytes", "b": "", "c": "others"})
	// A file that a crash cut has spare room, which is not to be handed out.
	f.Crash([]int{1, 3})
	spoil(f)
	ok(t, f.Append("a", []byte("w")))
	holds(t, f, files{"a": "some bytes, aw", "b": "", "c": "others", "d": ""})
}

// R4: an answer stays, whatever becomes of the file.
func TestAnswersStay(t *testing.T) {
	f := begun(t)
	b, _ := f.Read("a")
	list, _ := f.List()
	ok(t, f.Damage("a", 0, 1), f.Append("a", []byte("w")), f.Create("0"), f.Rename("a", "b"))
	f.Crash([]int{2, 0})
	ok(t, f.Append("0", []byte("123")))
	if string(b) != "xyz" || !slices.Equal(list, []string{"a"}) {
		t.Errorf("%q, %q", b, list)
	}
}

// R5: what is answered hangs on what was asked alone: the same calls, the same answers, however often.
func TestSameAgain(t *testing.T) {
	var first []string
	for range 20 {
		f := fresh(t, 1000)
		for i := range 20 {
			name := string(rune('a' + i*7%20))
			ok(t, f.Create(name), f.Append(name, bytes.Repeat([]byte(name), i)))
		}
		f.Crash([]int{15, 3, 1, 4, 1, 5, 9, 2, 6, 5, 3, 5, 8, 9, 7, 9})
		list, _ := f.List()
		for _, name := range slices.Clone(list) {
			b, _ := f.Read(name)
			list = append(list, string(b))
		}
		if first == nil {
			first = list
		}
		if !slices.Equal(list, first) {
			t.Fatalf("%q, and once %q", list, first)
		}
	}
}
