package version_test

import (
	"reflect"
	"slices"
	"sync"
	"testing"

	"staddle/api"
	"staddle/version"
)

var (
	badGone = api.Gone{Level: 9, Num: 99}
	badFile = api.File{Level: 9, Num: 99, Size: 9, Small: api.IKey{User: "spoilt"}, Large: api.IKey{User: "spoilt"}}
)

// spoil writes over all that a list has, its spare room too.
func spoil[T any](l []T, with T) {
	all := l[:cap(l)]
	for i := range all {
		all[i] = with
	}
}

// spoilAll writes over all lists of a version.
func spoilAll(v api.Version) {
	for _, l := range v.L {
		spoil(l, badFile)
	}
}

// roomy is a list with spare room, and the whole of it.
func roomy[T any](l []T, spare int, with T) (list, whole []T) {
	whole = append(slices.Clone(l), slices.Repeat([]T{with}, spare)...)
	return whole[:len(l)], whole
}

// handed are a version and an edit whose lists have spare room, and a look at all of their memory.
func handed(v api.Version, x api.Edit, spare int) (api.Version, api.Edit, func() []any) {
	var all [api.Levels][]api.File
	for i, l := range v.L {
		v.L[i], all[i] = roomy(l, spare, badFile)
	}
	var gone []api.Gone
	var added []api.File
	x.Dels, gone = roomy(x.Dels, spare, badGone)
	x.Adds, added = roomy(x.Adds, spare, badFile)
	return v, x, func() []any {
		out := []any{slices.Clone(gone), slices.Clone(added)}
		for _, l := range all {
			out = append(out, slices.Clone(l))
		}
		return out
	}
}

// someEdits are edits of some(), the ones that are refused too.
func someEdits() []api.Edit {
	return []api.Edit{
		{},
		dels(gone(0, 20)),
		dels(gone(0, 30), gone(1, 3), gone(2, 2), gone(3, 40)),
		adds(file(0, 50, "a", "b")),
		adds(file(0, 50, "a", "b"), file(1, 51, "x", "y"), file(1, 52, "j", "j"), file(2, 53, "p", "p"), file(3, 54, "", "b")),
		{Log: 1, Next: 60, Last: 7, Dels: []api.Gone{gone(1, 3), gone(1, 25)}, Adds: []api.File{file(1, 3, "b", "h"), file(2, 25, "x", "y")}},
		dels(gone(0, 20), gone(0, 20)),
		dels(gone(4, 20)),
		adds(file(1, 50, "x", "y"), file(1, 50, "x", "y")),
		adds(file(1, 50, "x", "y"), file(1, 51, "y", "y")),
		{Dels: []api.Gone{gone(0, 30)}, Adds: []api.File{file(3, 60, "a", "a"), file(3, 61, "\xff", "\xff")}},
	}
}

// R4: no call changes what it is handed, its spare room included, or keeps it.
func TestHandedInStays(t *testing.T) {
	for i, x := range someEdits() {
		for _, spare := range []int{0, 1, 20} {
			for _, files := range []api.Version{{}, some(), faultyVersion()} {
				v, y, look := handed(files, x, spare)
				was := look()
				version.Check(v)
				got, _ := version.Apply(v, y)
				over, ask, all := version.Over(v, 0, "", "z"), version.Ask(v, "b"), version.Nums(v)
				version.Size(v, 1)
				if !reflect.DeepEqual(look(), was) {
					t.Errorf("edit %d: what was handed in is changed", i)
				}
				spoilAll(got)
				spoil(over, badFile)
				spoil(ask, badFile)
				spoil(all, 99)
				if !reflect.DeepEqual(look(), was) {
					t.Errorf("edit %d: an answer shares memory with what was handed in", i)
				}
			}
		}
	}
}

// R4: what is answered is new memory: it stays when what was handed in changes, and when other answers do.
func TestAnswersAreNewMemory(t *testing.T) {
	for i, x := range someEdits() {
		for _, spare := range []int{0, 1, 20} {
			v, y, _ := handed(some(), x, spare)
			first, err := version.Apply(v, y)
			second, _ := version.Apply(v, y)
			over, over2 := version.Over(v, 0, "", "z"), version.Over(v, 0, "", "z")
			ask, ask2 := version.Ask(v, "b"), version.Ask(v, "b")
			all, all2 := version.Nums(v), version.Nums(v)
			spoilAll(first)
			spoil(over, badFile)
			spoil(ask, badFile)
			spoil(all, 99)
			spoilAll(v)
			spoil(y.Dels, badGone)
			spoil(y.Adds, badFile)
			want, wantErr := version.Apply(some(), someEdits()[i])
			if !same(second, want) || err != wantErr {
				t.Errorf("edit %d: %+v", i, second)
			}
			if !slices.Equal(over2, version.Over(some(), 0, "", "z")) || !slices.Equal(ask2, version.Ask(some(), "b")) || !slices.Equal(all2, version.Nums(some())) {
				t.Errorf("edit %d: answers share memory", i)
			}
		}
	}
}

// R4: no two lists of one answer share memory, spare room too.
func TestListsOfOneAnswer(t *testing.T) {
	for i, x := range someEdits() {
		for level := range api.Levels {
			got, _ := version.Apply(some(), x)
			want := copied(got)
			spoil(got.L[level], badFile)
			_ = append(got.L[level], badFile, badFile, badFile, badFile)
			for other, l := range got.L {
				if other != level && !slices.Equal(l, want.L[other]) {
					t.Errorf("edit %d: levels %d and %d share memory", i, level, other)
				}
			}
		}
	}
}

// R4: one list may be handed in several times.
func TestOneListTwice(t *testing.T) {
	l := []api.File{file(1, 3, "a", "b")}
	v := levels(l, l, l, l)
	if version.Check(v) != api.ErrVersionForm {
		t.Error("one list in all levels")
	}
	tells(t, "Ask", version.Ask(v, "a"), 3, 3, 3, 3)
	x := api.Edit{Dels: []api.Gone{gone(1, 3)}, Adds: l}
	makes(t, "the level's own list", levels(nil, l), x, levels(nil, l))
	if !slices.Equal(l, []api.File{file(1, 3, "a", "b")}) {
		t.Errorf("%+v", l)
	}
}

// R5: the same is answered again and again, whatever else is asked, and by several at once.
func TestSameAgain(t *testing.T) {
	var wait sync.WaitGroup
	v, w := some(), faultyVersion()
	for range 8 {
		wait.Go(func() {
			for i, x := range someEdits() {
				got, err := version.Apply(v, x)
				want, wantErr := version.Apply(some(), someEdits()[i])
				if !same(got, want) || err != wantErr {
					t.Errorf("edit %d: %d, %+v", i, err, got)
				}
				if version.Check(w) != api.ErrVersionForm || !slices.Equal(version.Nums(w), version.Nums(faultyVersion())) {
					t.Error("faulty files")
				}
			}
		})
	}
	wait.Wait()
}
