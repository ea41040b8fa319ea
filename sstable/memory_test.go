package sstable_test

import (
	"bytes"
	"slices"
	"sync"
	"testing"

	"staddle/api"
	"staddle/sstable"
)

// scribble writes a byte over all that a list has, its spare room too.
func scribble(b []byte, c byte) {
	all := b[:cap(b)]
	for i := range all {
		all[i] = c
	}
}

// several are options of each kind.
func several() []api.Options {
	return []api.Options{usual, {Block: 1, Interval: 1, Bits: 1}, {Block: 65536, Interval: 16, Bits: 50}}
}

// R4: Build neither changes nor keeps the entries that it is handed, their spare room included; its answer is new memory.
func TestBuildIsNewMemory(t *testing.T) {
	for _, n := range []int{1, 2, 3, 12, 40} {
		for _, spare := range []int{0, 1, 20} {
			for _, o := range several() {
				room := numbered(n + spare)
				l := room[:n]
				was := slices.Clone(room)
				want := laid(l, o).bytes()
				first, second := builds(t, l, o), builds(t, l, o)
				refuses(t, "a block", l, api.Options{}, api.ErrArg)
				scribble(first, 0x33)
				_ = append(first, "more bytes than there is spare room for, perhaps"...)
				if !slices.Equal(room, was) {
					t.Errorf("%d entries: what was handed in is changed", n)
				}
				for i := range room {
					room[i] = put("spoilt", 1, "spoilt")
				}
				if !bytes.Equal(second, want) {
					t.Errorf("%d entries: what was handed in is kept, or answers share memory", n)
				}
			}
		}
	}
}

// R4: Open neither changes nor keeps the bytes that it is handed, their spare room included.
func TestOpenKeepsNothing(t *testing.T) {
	for _, n := range []int{1, 12, 40} {
		l := numbered(n)
		for _, o := range several() {
			for _, spare := range []int{0, 1, 9, 100} {
				b := append(laid(l, o).bytes(), bytes.Repeat([]byte{1}, spare)...)
				was := slices.Clone(b[:cap(b)])
				handed := b[:len(b)-spare]
				x, y := opens(t, handed), opens(t, handed)
				holds(t, x, l)
				gets(t, x, l[0].Key.User, 90, l[0].Value, api.There)
				if !bytes.Equal(b[:cap(b)], was) {
					t.Error("what was handed in is changed")
				}
				// A filter of bytes that are 1 would rule out most users; of bytes that are 0x33, none.
				for _, c := range []byte{1, 0x33} {
					scribble(b, c)
					holds(t, x, l)
					holds(t, y, l)
					for _, e := range l {
						value, what := known(l, e.Key.User, e.Key.Seq)
						gets(t, x, e.Key.User, e.Key.Seq, value, what)
					}
				}
			}
		}
	}
}

// R4: bytes that are refused are not changed either.
func TestRefusedBytesStay(t *testing.T) {
	b := append(some().bytes(), 0, 7, 7, 7)
	was := slices.Clone(b)
	closed(t, "a byte behind", b[:len(b)-3], api.ErrTableForm)
	b[len(b)-40] ^= 1
	closed(t, "a sum", b[:len(b)-4], api.ErrTableSum)
	b[len(b)-40] ^= 1
	if !bytes.Equal(b, was) {
		t.Error("what was handed in is changed")
	}
}

// R4: All answers a new list each time, its spare room too.
func TestAllIsNewMemory(t *testing.T) {
	l := numbered(40)
	for _, o := range several() {
		x := opens(t, builds(t, l, o))
		first, _ := x.All()
		second, _ := x.All()
		room := first[:cap(first)]
		for i := range room {
			room[i] = put("spoilt", 1, "spoilt")
		}
		_ = append(first, put("more", 1, "more"))
		if !slices.Equal(second, l) {
			t.Error("answers share memory")
		}
		holds(t, x, l)
	}
}

// R5: a table tells the same, whatever was asked of it or of others before, errors among it.
func TestAgain(t *testing.T) {
	l := numbered(40)
	b := builds(t, l, usual)
	x := opens(t, b)
	damaged := slices.Clone(b)
	damaged[0] ^= 1
	y := opens(t, damaged)
	for i := range 40 {
		other := opens(t, builds(t, l[:1+i], several()[i%3]))
		other.All()
		other.Get(l[i].Key.User, 1)
		sstable.Open(nil)
		sstable.Build(l, api.Options{})
		broken(t, "damaged", y, api.ErrTableSum)
		fails(t, y, l[0].Key.User, 90, api.ErrTableSum)
		holds(t, x, l)
		value, what := known(l, l[i].Key.User, l[i].Key.Seq)
		gets(t, x, l[i].Key.User, l[i].Key.Seq, value, what)
		if !bytes.Equal(builds(t, l, usual), b) {
			t.Error("Build answers otherwise")
		}
	}
}

// R5: an address, a capacity are not seen in an answer.
func TestCapacities(t *testing.T) {
	l := numbered(12)
	b := builds(t, l, usual)
	for _, room := range []int{0, 1, 4, 28, 1000} {
		if other := builds(t, append(make([]api.KV, 0, len(l)+room), l...), usual); !bytes.Equal(other, b) {
			t.Error("Build hangs on a capacity")
		}
		holds(t, opens(t, append(make([]byte, 0, len(b)+room), b...)), l)
		held := append(append(make([]byte, room), b...), make([]byte, room)...)
		holds(t, opens(t, held[room:room+len(b)]), l)
	}
}

// R3, R5: asking changes nothing, so that many may ask one table at once.
func TestAskedAtOnce(t *testing.T) {
	l := numbered(60)
	x := opens(t, builds(t, l, usual))
	var all sync.WaitGroup
	for range 8 {
		all.Go(func() {
			for _, e := range l {
				value, what := known(l, e.Key.User, e.Key.Seq)
				if v, w, err := x.Get(e.Key.User, e.Key.Seq); v != value || w != what || err != api.OK {
					t.Errorf("Get(%v): %q, %d, %d", e.Key, v, w, err)
				}
			}
			if got, err := x.All(); !slices.Equal(got, l) || err != api.OK {
				t.Errorf("All: %v, %d", got, err)
			}
		})
	}
	all.Wait()
}
