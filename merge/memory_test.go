package merge_test

import (
	"math"
	"slices"
	"sync"
	"testing"

	"staddle/api"
	"staddle/merge"
)

// R1: a nil Iter goes nowhere.
func TestNil(t *testing.T) {
	var x *merge.Iter
	atNone(t, "nil", x)
	for _, c := range calls(put("a", 1), put("", math.MaxUint64), api.IKey{Kind: -5}) {
		c.do(x)
		atNone(t, c.name, x)
	}
}

// R1: an Iter that was not made by New has no lists.
func TestHandMade(t *testing.T) {
	x := new(merge.Iter)
	atNone(t, "made by hand", x)
	for _, c := range calls(put("a", 1), put("", math.MaxUint64), api.IKey{Kind: -5}) {
		for _, d := range calls(put("b", 1)) {
			c.do(x)
			atNone(t, c.name, x)
			d.do(x)
			atNone(t, c.name+", "+d.name, x)
		}
	}
}

// R1, R5: a copy of an Iter is where that one was, and goes its own way from there on.
func TestCopied(t *testing.T) {
	all := likeEntries()
	for place := range all {
		for what, way := range waysTo(place, len(all)) {
			for _, c := range moves(put("b", 2), put("f", 1)) {
				for _, d := range moves(put("c", 1), put("f", 1)) {
					x := fresh(t, likeLists()...)
					way(x)
					y := *x
					lx, ly := &line{all, place}, &line{all, place}
					said := func() string { return what + ", " + c.name + " and " + d.name }
					for range 3 {
						c.x(x)
						c.l(lx)
						asLine(t, said, &y, ly)
						d.x(&y)
						d.l(ly)
						asLine(t, said, x, lx)
						asLine(t, said, &y, ly)
					}
				}
			}
		}
	}
	x := fresh(t, likeLists()...)
	y := *x
	atNone(t, "a copy of one at none", &y)
	x.First()
	atNone(t, "a copy of one at none", &y)
	goesOn(t, "a copy", &y, all)
	isAt(t, "the Iter itself", x, all[0])
}

// bad is what a list is written over with.
var bad = api.KV{Key: api.IKey{User: "spoilt", Seq: 99, Kind: 9}, Value: "spoilt"}

// handed are lists that have spare room, and a look at all of their memory.
func handed(lists [][]api.KV, spare int) ([][]api.KV, func() [][]api.KV) {
	whole := make([][]api.KV, len(lists)+spare)
	for i := range whole {
		whole[i] = slices.Repeat([]api.KV{bad}, spare)
		if i < len(lists) {
			whole[i] = slices.Concat(lists[i], whole[i])
		}
	}
	out := slices.Clone(whole)
	for i, l := range lists {
		out[i] = out[i][:len(l)]
	}
	return out[:len(lists)], func() [][]api.KV {
		look := slices.Clone(out[:cap(out)][:len(whole)])
		for i, l := range look {
			look[i] = slices.Clone(l[:cap(l)])
		}
		return look
	}
}

// alike is whether lists are the same to the last entry.
func alike(a, b [][]api.KV) bool { return slices.EqualFunc(a, b, slices.Equal[[]api.KV]) }

// R4: what is handed in is not changed, its spare room included, by New and by what is done behind it.
func TestHandedInStays(t *testing.T) {
	for _, spare := range []int{0, 1, 20} {
		for _, lists := range [][][]api.KV{nil, {nil, {}}, likeLists(), exampleLists(), {list("", put("b", 1), put("a", 1)), likeLists()[0]}} {
			in, look := handed(lists, spare)
			was := look()
			x, _ := merge.New(in)
			if !alike(look(), was) {
				t.Fatalf("New changed %v", lists)
			}
			for _, c := range calls(put("b", 2), put("f", 1)) {
				c.do(x)
				x.Next()
				x.Prev()
				x.Prev()
				x.Next()
				x.At()
			}
			if !alike(look(), was) {
				t.Errorf("a call changed %v", lists)
			}
		}
	}
}

// R4: what is handed in is not kept: it may be written over, wherever the Iter is.
func TestHandedInIsNotKept(t *testing.T) {
	all := likeEntries()
	for place := range all {
		for what, way := range waysTo(place, len(all)) {
			for _, spare := range []int{0, 3} {
				in, _ := handed(likeLists(), spare)
				x := fresh(t, in...)
				way(x)
				for i, l := range in {
					for j := range l[:cap(l)] {
						l[:cap(l)][j] = bad
					}
					in[i] = nil
				}
				isAt(t, what, x, all[place])
				x.Next()
				x.Prev()
				goesOn(t, what, x, all)
				goesBack(t, what, x, all)
				x.Seek(put("b", 2))
				isAt(t, what+", Seek", x, all[2])
			}
		}
	}
}

// R4: what At answers is nobody else's: to change it changes nothing.
func TestAnswerStays(t *testing.T) {
	all := likeEntries()
	x := fresh(t, likeLists()...)
	for x.First(); ; x.Next() {
		e, ok := x.At()
		if !ok {
			break
		}
		e.Key.User, e.Key.Seq, e.Value = "spoilt", 99, "spoilt"
		if again, _ := x.At(); again == e {
			t.Fatalf("At: %v", again)
		}
	}
	goesOn(t, "behind it", x, all)
	x.First()
	kept, _ := x.At()
	x.Last()
	if kept != all[0] {
		t.Errorf("an answer became %v", kept)
	}
}

// R4: one list may be handed in several times.
func TestOneListTwice(t *testing.T) {
	l := list("x", put("a", 1), put("b", 1))
	lists := [][]api.KV{l, l, l[1:], l[:1]}
	holds(t, "one list", lists, l[0], l[0], l[0], l[1], l[1], l[1])
	if !slices.Equal(l, list("x", put("a", 1), put("b", 1))) {
		t.Errorf("%v", l)
	}
}

// R5: Iters are apart from one another, those of the same lists too; several may go at once.
func TestApart(t *testing.T) {
	lists, all := likeLists(), likeEntries()
	x, y := fresh(t, lists...), fresh(t, lists...)
	x.First()
	atNone(t, "the other one", y)
	y.Last()
	isAt(t, "the one", x, all[0])
	x.Seek(put("f", 1))
	isAt(t, "the other one", y, all[len(all)-1])
	var wait sync.WaitGroup
	for range 8 {
		wait.Go(func() {
			x, err := merge.New(lists)
			if err != api.OK {
				t.Errorf("New: %d", err)
				return
			}
			l := &line{all, -1}
			for i := range 3000 {
				m := moves(put("b", 2))[i*i%7%5]
				m.x(x)
				m.l(l)
				if e, ok := x.At(); ok != (l.at >= 0) || ok && e != all[l.at] {
					t.Errorf("%s: at %v, %v", m.name, e, ok)
				}
			}
		})
	}
	wait.Wait()
}
