package view_test

import (
	"slices"
	"sync"
	"testing"

	"staddle/api"
	"staddle/view"
)

// R1: a nil View goes nowhere.
func TestNil(t *testing.T) {
	var v *view.View
	atNone(t, "nil", v)
	for _, c := range calls("", "a", "\xff") {
		c.do(v)
		atNone(t, c.name, v)
	}
}

// R1: a View that was not made by New sees nothing.
func TestHandMade(t *testing.T) {
	v := new(view.View)
	atNone(t, "made by hand", v)
	for _, c := range calls("", "a", "\xff") {
		for _, d := range calls("b") {
			c.do(v)
			atNone(t, c.name, v)
			d.do(v)
			atNone(t, c.name+", "+d.name, v)
		}
	}
}

// R1, R5: a copy of a View is where that one was, and goes its own way from there on.
func TestCopied(t *testing.T) {
	for _, c := range moves("b", "d") {
		for _, d := range moves("c", "z") {
			everyPlace(t, func(what string, seq uint64, v *view.View, all []api.Item, place int) {
				w := *v
				lv, lw := &line{all, place}, &line{all, place}
				said := func() string { return what + ", " + c.name + " and " + d.name }
				for range 3 {
					c.v(v)
					c.l(lv)
					asLine(t, said, &w, lw)
					d.v(&w)
					d.l(lw)
					asLine(t, said, v, lv)
					asLine(t, said, &w, lw)
				}
			})
		}
	}
	v := fresh(t, 6, mixedLists()...)
	w := *v
	atNone(t, "a copy of one at none", &w)
	v.First()
	atNone(t, "a copy of one at none", &w)
	goesOn(t, "a copy", &w, seen(mixedLists(), 6))
	isAt(t, "the View itself", v, item("c", "c3"))
}

// bad is what a list is written over with.
var bad = api.KV{Key: api.IKey{User: "spoilt", Seq: 1, Kind: api.Put}, Value: "spoilt"}

// handed are lists that have spare room, and a look at all of their memory.
func handed(lists [][]api.KV, spare int) ([][]api.KV, func() [][]api.KV) {
	whole := make([][]api.KV, len(lists)+spare)
	for i := range whole {
		whole[i] = slices.Repeat([]api.KV{bad}, spare)
		if i < len(lists) {
			whole[i] = slices.Concat(lists[i], whole[i])
		}
	}
	out := slices.Clone(whole)
	for i, l := range lists {
		out[i] = out[i][:len(l)]
	}
	return out[:len(lists)], func() [][]api.KV {
		look := slices.Clone(out[:cap(out)][:len(whole)])
		for i, l := range look {
			look[i] = slices.Clone(l[:cap(l)])
		}
		return look
	}
}

// alike is whether lists are the same to the last entry.
func alike(a, b [][]api.KV) bool { return slices.EqualFunc(a, b, slices.Equal[[]api.KV]) }

// R4: what is handed in is not changed, its spare room included, by New and by what is done behind it.
func TestHandedInStays(t *testing.T) {
	for _, spare := range []int{0, 1, 20} {
		for _, lists := range [][][]api.KV{nil, {nil, {}}, mixedLists(), exampleLists(), {{put("b", 1, ""), put("a", 1, "")}, mixedLists()[0]}} {
			for _, seq := range []uint64{0, 4, 6, 20} {
				in, look := handed(lists, spare)
				was := look()
				v, _ := view.New(in, seq)
				if !alike(look(), was) {
					t.Fatalf("New changed %v", lists)
				}
				for _, c := range calls("b", "f") {
					c.do(v)
					v.Next()
					v.Prev()
					v.Prev()
					v.Next()
					v.At()
				}
				if !alike(look(), was) {
					t.Errorf("a call changed %v", lists)
				}
			}
		}
	}
}

// R4: what is handed in is not kept: it may be written over, wherever the View is.
func TestHandedInIsNotKept(t *testing.T) {
	for _, seq := range []uint64{3, 6, 9} {
		all := seen(mixedLists(), seq)
		for place := range all {
			for what, way := range waysTo(place, all) {
				for _, spare := range []int{0, 3} {
					in, _ := handed(mixedLists(), spare)
					v := fresh(t, seq, in...)
					way(v)
					for i, l := range in {
						for j := range l[:cap(l)] {
							l[:cap(l)][j] = bad
						}
						in[i] = nil
					}
					isAt(t, what, v, all[place])
					v.Next()
					v.Prev()
					goesOn(t, what, v, all)
					goesBack(t, what, v, all)
					v.Seek("bb")
					isAt(t, what+", Seek", v, all[slices.Index(all, item("c", "c3"))])
				}
			}
		}
	}
}

// R4: what At answers is nobody else's: to change it changes nothing.
func TestAnswerStays(t *testing.T) {
	all := seen(mixedLists(), 6)
	v := fresh(t, 6, mixedLists()...)
	for v.First(); ; v.Next() {
		i, ok := v.At()
		if !ok {
			break
		}
		i.Key, i.Value = "spoilt", "spoilt"
		if again, _ := v.At(); again == i {
			t.Fatalf("At: %v", again)
		}
	}
	goesOn(t, "behind it", v, all)
	v.First()
	kept, _ := v.At()
	v.Last()
	if kept != all[0] {
		t.Errorf("an answer became %v", kept)
	}
}

// R4: one list may be handed in several times.
func TestOneListTwice(t *testing.T) {
	l := []api.KV{put("a", 3, "x"), put("b", 3, "y"), del("b", 2)}
	sees(t, "one list", [][]api.KV{l, l, l[1:], l[:1]}, 3, item("a", "x"), item("b", "y"))
	if !slices.Equal(l, []api.KV{put("a", 3, "x"), put("b", 3, "y"), del("b", 2)}) {
		t.Errorf("%v", l)
	}
}

// R5: Views are apart from one another, those of the same lists too, at the same number or not; several may go at once.
func TestApart(t *testing.T) {
	lists := mixedLists()
	v, w, later := fresh(t, 6, lists...), fresh(t, 6, lists...), fresh(t, 9, lists...)
	v.First()
	atNone(t, "the other one", w)
	w.Last()
	later.First()
	isAt(t, "the one", v, item("c", "c3"))
	isAt(t, "the other one", w, item("f", "f5"))
	isAt(t, "the later one", later, item("a", "a8"))
	var wait sync.WaitGroup
	for n := range 8 {
		wait.Go(func() {
			seq := uint64(n/2*3 + 1)
			v, err := view.New(lists, seq)
			if err != api.OK {
				t.Errorf("New: %d", err)
				return
			}
			l := &line{seen(lists, seq), -1}
			for i := range 3000 {
				m := moves("b")[i*i%7%5]
				m.v(v)
				m.l(l)
				if i, ok := v.At(); ok != (l.at >= 0) || ok && i != l.all[l.at] {
					t.Errorf("%s: at %v, %v", m.name, i, ok)
				}
			}
		})
	}
	wait.Wait()
}
