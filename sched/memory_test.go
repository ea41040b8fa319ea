package sched_test

import (
	"slices"
	"testing"

	"staddle/api"
)

// busy is a run in which cells change, all is told and tasks wait.
func busy() ([][]api.Inst, []int, []int) {
	code := tasks(
		of(lock(0), load(0, 0), add(0, 1), store(0, 0), emit(0), unlock(0), jump(0)),
		of(lock(0), wait(1, 0), emit(1), unlock(0)),
		of(signal(1), set(1, 4), store(2, 1), jump(0)),
		nil,
		of(unlock(3)),
	)
	return code, []int{7, 8}, []int{3, -4, 1, 0, 2, 9, 5, 1, -7, 0, 0, 1, 2, 3, 1, 1, 0, 4, 1, 0, 0, 0, 2, 1}
}

func cloned(code [][]api.Inst) [][]api.Inst {
	var out [][]api.Inst
	for _, c := range code {
		out = append(out, slices.Clone(c))
	}
	return out
}

// roomy is a list with spare room that is marked.
func roomy[T any](list []T, mark T) []T {
	out := append(slices.Clone(list), slices.Repeat([]T{mark}, 20)...)
	return out[:len(list)]
}

// R4: what is handed in stays as it is, its spare room included.
func TestArgumentsStay(t *testing.T) {
	code, told, picks := busy()
	want := ran(t, code, told, picks)
	mark := api.Inst{Op: 77}
	wide, long, many := roomy(told, 77), roomy(picks, 77), roomy(code, of(mark))
	for i, c := range many {
		many[i] = roomy(c, mark)
	}
	if r := ran(t, many, wide, long); !same(r, want) {
		t.Errorf("with spare room %+v, without %+v", r, want)
	}
	if !slices.Equal(wide[:22], roomy(told, 77)[:22]) || !slices.Equal(long[:44], roomy(picks, 77)[:44]) {
		t.Errorf("they became %d and %d", wide[:22], long[:44])
	}
	for i, c := range many[:25] {
		was, room := of(mark), 1
		if i < len(code) {
			was, room = roomy(code[i], mark), len(code[i])+20
		}
		if !slices.Equal(c[:room], was[:room]) {
			t.Errorf("the task %d became %v", i, c[:room])
		}
	}
}

// R4: what is answered is new memory, spare room too, where all cells are told as well.
func TestAnswersAreNew(t *testing.T) {
	code, told, picks := busy()
	told = roomy(cells(told...), 77)
	before := slices.Clone(told[:36])
	want := ran(t, code, told, picks)
	kept := api.Run{Cells: slices.Clone(want.Cells), Emits: slices.Clone(want.Emits), States: slices.Clone(want.States), Steps: want.Steps}
	for range 3 {
		r := ran(t, code, told, picks)
		if !same(r, kept) {
			t.Fatalf("%+v became %+v", kept, r)
		}
		spoil(r.Cells, -77)
		if !slices.Equal(r.States, kept.States) {
			t.Error("cells and states share memory")
		}
		spoil(r.States, -78)
		spoil(r.Emits, api.Emit{Task: -79})
		if !slices.Equal(told[:36], before) {
			t.Error("an answer shares memory with the cells that were told")
		}
		if !same(want, kept) {
			t.Error("two answers share memory")
		}
	}
}

func spoil[T any](list []T, with T) {
	list = list[:cap(list)]
	for i := range list {
		list[i] = with
	}
}

// R4: tasks may be one and the same list; each is a task of its own.
func TestSharedCode(t *testing.T) {
	one := of(add(0, 1), emit(0), jump(0))
	runs(t, tasks(one, one), nil, []int{0, 0, 0, 0, 0, 1, 1}, api.Run{Emits: emits(0, 1, 0, 2, 1, 1), States: []int{api.TRuns, api.TRuns}, Steps: 7})
}

// R5: a run tells the same as often as it is asked.
func TestSameAgain(t *testing.T) {
	code, told, picks := busy()
	first := ran(t, code, told, picks)
	ran(t, tellers(8), cells(1, 2, 3), zeros(50))
	for range 20 {
		if r := ran(t, cloned(code), slices.Clone(told), slices.Clone(picks)); !same(r, first) {
			t.Errorf("%+v, then %+v", first, r)
		}
	}
}
