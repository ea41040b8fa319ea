package manifest_test

import (
	"maps"
	"reflect"
	"slices"
	"sync"
	"testing"

	"staddle/api"
	"staddle/manifest"
)

var (
	badGone = api.Gone{Level: 9, Num: 99}
	badFile = api.File{Level: 9, Num: 99, Size: 9, Small: api.IKey{User: "spoilt"}, Large: api.IKey{User: "spoilt"}}
)

// spoil writes over all that a list has, its spare room too.
func spoil[T any](l []T, with T) {
	all := l[:cap(l)]
	for i := range all {
		all[i] = with
	}
}

// roomy is a list with spare room, and the whole of it.
func roomy[T any](l []T, spare int, with T) (list, whole []T) {
	whole = append(slices.Clone(l), slices.Repeat([]T{with}, spare)...)
	return whole[:len(l)], whole
}

// handed is a state whose lists have spare room, and these whole.
func handed(s api.State, spare int) (api.State, [][]api.File) {
	var all [][]api.File
	for i, l := range s.V.L {
		list, whole := roomy(l, spare, badFile)
		s.V.L[i], all = list, append(all, whole)
	}
	return s, all
}

// deep are lists of their own.
func deep(l [][]api.File) [][]api.File {
	var out [][]api.File
	for _, x := range l {
		out = append(out, slices.Clone(x))
	}
	return out
}

// R4: Write neither changes nor keeps the state's lists, their spare room included, whether it is written or not.
func TestWrittenStateStays(t *testing.T) {
	for what, s := range states() {
		for _, spare := range []int{0, 1, 200} {
			for n := range 3 {
				x, all := handed(s, spare)
				was := deep(all)
				f := begun(t)
				if n > 0 {
					f.Fail(n)
				}
				err := manifest.Write(f, x)
				if !reflect.DeepEqual(all, was) {
					t.Errorf("%s: what was handed in is changed", what)
				}
				for _, l := range all {
					spoil(l, badFile)
				}
				if err == api.OK {
					tells(t, what, f, s)
				} else {
					tells(t, what, f, before())
				}
			}
		}
	}
}

// R4: a state that is refused stays as it is, too.
func TestRefusedStateStays(t *testing.T) {
	for _, c := range refusals() {
		x, all := handed(c.s, 3)
		was := deep(all)
		wrong(t, c.what, manifest.Write(begun(t), x), c.want)
		if !reflect.DeepEqual(all, was) {
			t.Errorf("%s: what was handed in is changed", c.what)
		}
	}
}

// R4: one list may stand in a state several times, if it has nothing.
func TestOneListInAllLevels(t *testing.T) {
	empty := make([]api.File, 0, 10)
	s := api.State{Num: 4, Last: 5}
	s.V.L = [api.Levels][]api.File{empty, empty, empty, empty}
	f := fresh(t, topQuota)
	ok(t, manifest.Write(f, s))
	tells(t, "empty lists", f, s)
	if slices.ContainsFunc(empty[:cap(empty)], func(x api.File) bool { return x != api.File{} }) {
		t.Error("spare room is changed")
	}
}

// R4: Append neither changes nor keeps the edit's lists, their spare room included, whether it is laid or not.
func TestAppendedEditStays(t *testing.T) {
	all := someEdits(t)
	maps.Copy(all, wrongEdits())
	for what, x := range all {
		for _, num := range []uint64{3, 4} {
			y := x
			var wholeDels []api.Gone
			var wholeAdds []api.File
			y.Dels, wholeDels = roomy(x.Dels, 3, badGone)
			y.Adds, wholeAdds = roomy(x.Adds, 3, badFile)
			wasDels, wasAdds := slices.Clone(wholeDels), slices.Clone(wholeAdds)
			f := begun(t)
			want := look(t, f)["MANIFEST-000003"]
			if manifest.Append(f, num, y) == api.OK {
				want = behind(want, x)
			}
			if !slices.Equal(wholeDels, wasDels) || !slices.Equal(wholeAdds, wasAdds) {
				t.Errorf("%s: what was handed in is changed", what)
			}
			spoil(wholeDels, badGone)
			spoil(wholeAdds, badFile)
			if got := look(t, f)["MANIFEST-000003"]; got != want {
				t.Errorf("%s: what was handed in is kept", what)
			}
		}
	}
}

// R4: what Load answers is new memory, spare room too, and no two of its lists share any.
func TestLoadedStateIsNewMemory(t *testing.T) {
	for what, s := range states() {
		f := begun(t)
		ok(t, manifest.Write(f, s))
		second, err := manifest.Load(f)
		ok(t, err)
		for level := range api.Levels {
			first, err := manifest.Load(f)
			ok(t, err)
			spoil(first.V.L[level], badFile)
			_ = append(first.V.L[level], badFile, badFile)
			first.V.L[level] = s.V.L[level]
			if !same(first, s) {
				t.Errorf("%s: two levels share memory", what)
			}
		}
		if !same(second, s) {
			t.Errorf("%s: two answers share memory", what)
		}
		tells(t, what, f, s)
	}
}

// R5: a call answers the same, whatever was asked before, and of any copy of the files.
func TestSameAgain(t *testing.T) {
	for range 3 {
		for what, s := range states() {
			manifest.Write(begun(t), api.State{})
			manifest.Load(counts(t, "x"))
			f, g := begun(t), begun(t)
			for _, spare := range []int{0, 50} {
				x, _ := handed(s, spare)
				manifest.Write(f, x)
			}
			wrong(t, what, manifest.Write(g, s), api.OK)
			if !maps.Equal(look(t, f), look(t, g)) {
				t.Errorf("%s: other files", what)
			}
			tells(t, what, f.Copy(), s)
		}
		parses(t, "CURRENT.tmp", api.NTemp, 0)
		isNone(t, "CURRENT.tm")
	}
}

// R5: what is asked at once, each of files of its own, is answered as by itself.
func TestAskedAtOnce(t *testing.T) {
	all, f := states(), begun(t)
	var asked sync.WaitGroup
	for range 8 {
		g := f.Copy()
		asked.Go(func() {
			for what, s := range all {
				if err := manifest.Write(g, s); err != api.OK {
					t.Errorf("%s: %d", what, err)
				}
				tells(t, what, g, s)
				if err := manifest.Append(g, s.Num, api.Edit{Last: 1}); err != api.OK {
					t.Errorf("%s: %d", what, err)
				}
				parses(t, manifest.Name(api.NTable, s.Num), api.NTable, s.Num)
			}
		})
	}
	asked.Wait()
}
