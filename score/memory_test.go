package score_test

import (
	"reflect"
	"slices"
	"sync"
	"testing"

	"staddle/api"
	"staddle/score"
)

var badFile = api.File{Level: 9, Num: 99, Size: 9, Small: api.IKey{User: "spoilt"}, Large: api.IKey{User: "spoilt"}}

// some are files in all levels, of which level 0's lead to one another, but for one.
func some() api.Version {
	return stand(
		file(0, 30, "a", "d"), file(0, 20, "m", "p"), file(0, 10, "d", "f"),
		file(1, 3, "b", "d"), file(1, 25, "f", "h"), file(1, 1, "m", "m"),
		file(2, 4, "", "c"), file(2, 2, "c\x00", "k"),
		file(3, 40, "\xfe", "\xff\xff"))
}

// spoil writes over all that a list has, its spare room too.
func spoil[T any](l []T, with T) {
	all := l[:cap(l)]
	for i := range all {
		all[i] = with
	}
}

// roomy is a list with spare room, and the whole of it.
func roomy[T any](l []T, spare int, with T) (list, whole []T) {
	whole = append(slices.Clone(l), slices.Repeat([]T{with}, spare)...)
	return whole[:len(l)], whole
}

// handed is a version whose lists have spare room, and a look at all of their memory.
func handed(v api.Version, spare int) (api.Version, func() []any) {
	var all [api.Levels][]api.File
	for i, l := range v.L {
		v.L[i], all[i] = roomy(l, spare, badFile)
	}
	return v, func() []any {
		var out []any
		for _, l := range all {
			out = append(out, slices.Clone(l))
		}
		return out
	}
}

// R4: no call changes what it is handed, its spare room included, or keeps it; what is answered shares none of it.
func TestHandedInStays(t *testing.T) {
	for _, spare := range []int{0, 1, 20} {
		for _, files := range []api.Version{{}, some(), stand(file(0, 1, "z", "a")), levels(nil, []api.File{{}, {}}, []api.File{{}})} {
			v, look := handed(files, spare)
			targets, whole := roomy([]float64{10, 20, 30, 40}, spare, 5)
			was, wasTargets := look(), slices.Clone(whole)
			for level := -1; level <= api.Levels; level++ {
				for _, from := range []string{"", "b", "z"} {
					lower, upper := score.Inputs(v, level, from)
					spoil(lower, badFile)
					spoil(upper, badFile)
				}
			}
			l := score.Scores(v, 2, targets)
			in, wholeIn := roomy(l, spare, 7)
			wasIn := slices.Clone(wholeIn)
			score.Pick(in)
			spoil(l, 8)
			if !reflect.DeepEqual(look(), was) || !slices.Equal(whole, wasTargets) || !slices.EqualFunc(wholeIn, wasIn, like) {
				t.Errorf("%+v: what was handed in is changed", files)
			}
		}
	}
}

// R4: what is answered is new memory: it stays when what was handed in changes, when another answer does, and when the other list does.
func TestAnswersAreNewMemory(t *testing.T) {
	for _, spare := range []int{0, 1, 20} {
		for level := range 3 {
			v, _ := handed(some(), spare)
			targets := []float64{10, 20, 30}
			lower, upper := score.Inputs(v, level, "a")
			again, _ := score.Inputs(v, level, "a")
			_, above := score.Inputs(v, level, "a")
			l, l2 := score.Scores(v, 2, targets), score.Scores(v, 2, targets)
			spoil(again, badFile)
			spoil(above, badFile)
			spoil(l2, 9)
			spoil(targets, 9)
			for _, l := range v.L {
				spoil(l, badFile)
			}
			wantLower, wantUpper := score.Inputs(some(), level, "a")
			if !slices.Equal(lower, wantLower) || !slices.Equal(upper, wantUpper) || !slices.Equal(l, score.Scores(some(), 2, []float64{10, 20, 30})) {
				t.Errorf("level %d: %v, %v, %v", level, lower, upper, l)
			}
			spoil(lower, badFile)
			_ = append(lower, badFile, badFile, badFile, badFile)
			if !slices.Equal(upper, wantUpper) {
				t.Errorf("level %d: the lists of one answer share memory", level)
			}
		}
	}
}

// R4: one list may be handed in several times.
func TestOneListTwice(t *testing.T) {
	l := []api.File{file(1, 3, "a", "b"), file(1, 4, "b", "c")}
	v := levels(l, l, l, l)
	takes(t, "level 0", v, 0, "", list(3, 4), list(3, 4))
	takes(t, "level 1", v, 1, "a", list(4), list(3, 4))
	takes(t, "level 2", v, 2, "b", list(3), list(3, 4))
	scores(t, "all", v, 4, []float64{20, 40, 80}, 0.5, 1, 0.5, 0.25)
	lower, upper := score.Inputs(v, 0, "")
	spoil(lower, badFile)
	if !slices.Equal(upper, l) || !slices.Equal(l, []api.File{file(1, 3, "a", "b"), file(1, 4, "b", "c")}) {
		t.Errorf("%v, %v", upper, l)
	}
}

// R5: the same is answered again and again, whatever else is asked, and by several at once.
func TestSameAgain(t *testing.T) {
	var wait sync.WaitGroup
	v, targets := some(), []float64{10, 20, 30}
	want := score.Scores(some(), 2, []float64{10, 20, 30})
	for range 8 {
		wait.Go(func() {
			for range 300 {
				for level := range 3 {
					lower, upper := score.Inputs(v, level, "b")
					wantLower, wantUpper := inputsPlainly(some(), level, "b")
					if !slices.Equal(lower, wantLower) || !slices.Equal(upper, wantUpper) {
						t.Errorf("level %d: %v, %v", level, lower, upper)
					}
				}
				if l := score.Scores(v, 2, targets); !slices.Equal(l, want) || score.Pick(l) != 1 {
					t.Errorf("%v", l)
				}
			}
		})
	}
	wait.Wait()
}
