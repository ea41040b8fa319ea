package sched_test

import (
	"math"
	"slices"
	"testing"

	"staddle/api"
	"staddle/sched"
)

// Short forms of instructions, so that a task is a line.
func load(r, c int) api.Inst      { return api.Inst{Op: api.ILoad, A: r, B: c} }
func store(c, r int) api.Inst     { return api.Inst{Op: api.IStore, A: c, B: r} }
func cas(c, r, with int) api.Inst { return api.Inst{Op: api.ICas, A: c, B: r, C: with} }
func set(r, n int) api.Inst       { return api.Inst{Op: api.ISet, A: r, B: n} }
func add(r, n int) api.Inst       { return api.Inst{Op: api.IAdd, A: r, B: n} }
func jumpZ(r, p int) api.Inst     { return api.Inst{Op: api.IJumpZ, A: r, B: p} }
func jump(p int) api.Inst         { return api.Inst{Op: api.IJump, B: p} }
func lock(c int) api.Inst         { return api.Inst{Op: api.ILock, A: c} }
func unlock(c int) api.Inst       { return api.Inst{Op: api.IUnlock, A: c} }
func wait(c, m int) api.Inst      { return api.Inst{Op: api.IWait, A: c, B: m} }
func signal(c int) api.Inst       { return api.Inst{Op: api.ISignal, A: c} }
func broadcast(c int) api.Inst    { return api.Inst{Op: api.IBroadcast, A: c} }
func emit(r int) api.Inst         { return api.Inst{Op: api.IEmit, A: r} }
func end() api.Inst               { return api.Inst{Op: api.IEnd} }

func tasks(list ...[]api.Inst) [][]api.Inst { return list }
func of(list ...api.Inst) []api.Inst        { return list }
func zeros(n int) []int                     { return make([]int, n) }

// cells are 16, those that are told first.
func cells(told ...int) []int {
	out := make([]int, 16)
	copy(out, told)
	return out
}

// emits are pairs of a task and what it told.
func emits(pairs ...int) []api.Emit {
	var out []api.Emit
	for i := 0; i < len(pairs); i += 2 {
		out = append(out, api.Emit{Task: pairs[i], Value: pairs[i+1]})
	}
	return out
}

func same(a, b api.Run) bool {
	return slices.Equal(a.Cells, b.Cells) && slices.Equal(a.Emits, b.Emits) && slices.Equal(a.States, b.States) && a.Steps == b.Steps
}

func ran(t *testing.T, code [][]api.Inst, cells, picks []int) api.Run {
	t.Helper()
	r, err := sched.Run(code, cells, picks)
	if err != api.OK {
		t.Fatalf("it was refused: %v", err)
	}
	return r
}

func runs(t *testing.T, code [][]api.Inst, told, picks []int, want api.Run) {
	t.Helper()
	if want.Cells == nil {
		want.Cells = cells()
	}
	if r := ran(t, code, told, picks); !same(r, want) {
		t.Errorf("picks %d:\n got %+v\nwant %+v", picks, r, want)
	}
}

// The chapter's examples.
func TestExamples(t *testing.T) {
	counts := of(load(0, 0), add(0, 1), store(0, 0))
	both := tasks(counts, counts)
	runs(t, both, nil, zeros(6), api.Run{Cells: cells(2), States: []int{api.TEnds, api.TEnds}, Steps: 6})
	runs(t, both, nil, []int{0, 1, 0, 1, 0, 1}, api.Run{Cells: cells(1), States: []int{api.TEnds, api.TEnds}, Steps: 6})
	runs(t, both, nil, nil, api.Run{States: []int{api.TRuns, api.TRuns}})
}

// The sections "Types" and "Errors".
func TestNumbers(t *testing.T) {
	if api.ErrSchedForm != 50 {
		t.Errorf("ErrSchedForm is %d", int(api.ErrSchedForm))
	}
	ops := []int{api.ILoad, api.IStore, api.ICas, api.ISet, api.IAdd, api.IJumpZ, api.IJump, api.ILock, api.IUnlock, api.IWait, api.ISignal, api.IBroadcast, api.IEmit, api.IEnd}
	for i, op := range ops {
		if op != i+1 {
			t.Errorf("the instruction %d is %d", i+1, op)
		}
	}
	if states := []int{api.TRuns, api.TWaits, api.TEnds, api.TBad}; !slices.Equal(states, []int{0, 1, 2, 3}) {
		t.Errorf("the states are %d", states)
	}
	if limits := []int{api.MaxTasks, api.MaxCode, api.MaxCells}; !slices.Equal(limits, []int{8, 64, 16}) {
		t.Errorf("the limits are %d", limits)
	}
}

// "Types": registers, places, mutexes and conditions begin as nothing, and all four registers are a task's own.
func TestBeginning(t *testing.T) {
	tells := of(emit(0), emit(1), emit(2), emit(3))
	runs(t, tasks(tells), []int{5, 6, 7, 8}, zeros(4), api.Run{Cells: cells(5, 6, 7, 8), Emits: emits(0, 0, 0, 0, 0, 0, 0, 0), States: []int{api.TEnds}, Steps: 4})
	sets := of(set(0, 1), set(1, 2), set(2, 3), set(3, 4))
	runs(t, tasks(sets, tells), nil, zeros(8), api.Run{Emits: emits(1, 0, 1, 0, 1, 0, 1, 0), States: []int{api.TEnds, api.TEnds}, Steps: 8})
	runs(t, tasks(append(sets, tells...)), nil, zeros(8), api.Run{Emits: emits(0, 1, 0, 2, 0, 3, 0, 4), States: []int{api.TEnds}, Steps: 8})
	for m := range 16 {
		runs(t, tasks(of(lock(m), end())), nil, zeros(1), api.Run{States: []int{api.TRuns}, Steps: 1})
	}
}

// P5.2: cells that are not told are 0; all of them are told.
func TestCells(t *testing.T) {
	for n := range 17 {
		given := slices.Repeat([]int{-9}, n)
		runs(t, nil, given, nil, api.Run{Cells: cells(given...)})
	}
	last := []int{math.MinInt, 1, 2, 3, 4, 5, 6, 7, 8, 9, 10, 11, 12, 13, 14, math.MaxInt}
	runs(t, tasks(of(load(0, 15), store(0, 0))), last, zeros(2), api.Run{Cells: append([]int{math.MaxInt}, last[1:]...), States: []int{api.TEnds}, Steps: 2})
}

// P5.2: no task, a task of no instructions, no picks.
func TestNothing(t *testing.T) {
	runs(t, nil, nil, nil, api.Run{})
	runs(t, tasks(), nil, zeros(3), api.Run{})
	runs(t, tasks(nil), nil, nil, api.Run{States: []int{api.TEnds}})
	runs(t, tasks(nil, of()), nil, zeros(3), api.Run{States: []int{api.TEnds, api.TEnds}})
	runs(t, tasks(nil, of(end()), nil), nil, nil, api.Run{States: []int{api.TEnds, api.TRuns, api.TEnds}})
	runs(t, tasks(nil, of(end()), nil), nil, zeros(3), api.Run{States: []int{api.TEnds, api.TEnds, api.TEnds}, Steps: 1})
}

// tellers are n tasks that each tell their beginnings without an end.
func tellers(n int) [][]api.Inst {
	return slices.Repeat(tasks(of(emit(0), jump(0))), n)
}

// P5.2: of the tasks that can go the one whose place among them is the pick's remainder.
func TestPicks(t *testing.T) {
	least, most := math.MinInt, math.MaxInt
	for n := 1; n <= 8; n++ {
		for pick, want := range map[int]int{0: 0, 1: 1, 7: 7, 8: 8, 1000: 1000, most: most, -1: 0, -2: 1, -8: 7, -9: 8, -1000: 999, least: most, least + 1: most - 1} {
			states := make([]int, n)
			runs(t, tellers(n), nil, []int{pick}, api.Run{Emits: emits(want%n, 0), States: states, Steps: 1})
		}
	}
}

// P5.2: the remainder is by how many can go now; tasks that ended, are bad, wait or want are none of them.
func TestWhoCanGo(t *testing.T) {
	code := tasks(
		of(end()),
		of(emit(0), jump(0)),
		of(unlock(0)),
		of(lock(3), emit(0), jump(1)),
		of(lock(1), wait(0, 1)),
		of(lock(3)),
		of(emit(0), jump(0)),
	)
	picks := []int{0, 1, 1, 2, 2} // 0 ends, 2 is bad, 3 has the mutex 3, 4 waits
	states := []int{api.TEnds, api.TRuns, api.TBad, api.TRuns, api.TWaits, api.TWaits, api.TRuns}
	runs(t, code, nil, picks, api.Run{States: states, Steps: 5})
	for pick, task := range map[int]int{0: 1, 1: 3, 2: 6, 3: 1, 5: 6, -1: 1, -3: 6} {
		runs(t, code, nil, append(slices.Clone(picks), pick), api.Run{Emits: emits(task, 0), States: states, Steps: 6})
	}
}

// P5.2: where no task can go, nothing more is done, whatever is picked.
func TestNobodyCanGo(t *testing.T) {
	for _, c := range []struct {
		task  []api.Inst
		state int
		steps int
	}{
		{of(), api.TEnds, 0},
		{of(set(0, 1)), api.TEnds, 1},
		{of(unlock(0), set(0, 1)), api.TBad, 1},
		{of(lock(0), lock(0), set(0, 1)), api.TWaits, 1},
		{of(lock(0), wait(0, 0), set(0, 1)), api.TWaits, 2},
	} {
		for _, behind := range [][]int{nil, {0}, {-1, 5, 3}, {math.MinInt, math.MaxInt}} {
			picks := append(zeros(c.steps), behind...)
			runs(t, tasks(c.task), nil, picks, api.Run{States: []int{c.state}, Steps: c.steps})
			runs(t, tasks(c.task, nil), nil, picks, api.Run{States: []int{c.state, api.TEnds}, Steps: c.steps})
		}
	}
}

// P5.2: a task ends as soon as it is behind its last instruction, without a step.
func TestEndsBehindTheLast(t *testing.T) {
	for name, task := range map[string][]api.Inst{
		"the last one":        of(set(0, 1)),
		"a jump":              of(jump(3), emit(0), emit(0)),
		"a jump at 0":         of(jumpZ(0, 3), emit(0), emit(0)),
		"the last, a jump":    of(jump(1)),
		"the last, none":      of(add(3, 1)),
		"an end":              of(end(), emit(0)),
		"a lock":              of(lock(0)),
		"a signal for nobody": of(signal(0)),
	} {
		r := ran(t, tasks(task, of(emit(1))), nil, zeros(1))
		if !same(r, api.Run{Cells: cells(), States: []int{api.TEnds, api.TRuns}, Steps: 1}) {
			t.Errorf("%s: %+v", name, r)
		}
		r = ran(t, tasks(task, of(emit(1))), nil, zeros(5))
		if !same(r, api.Run{Cells: cells(), Emits: emits(1, 0), States: []int{api.TEnds, api.TEnds}, Steps: 2}) {
			t.Errorf("%s: %+v", name, r)
		}
	}
}

// P5.4: what is told stands in the order in which it was.
func TestEmitsInOrder(t *testing.T) {
	code := tasks(of(emit(0), add(0, 1), jump(0)), of(set(0, -5), emit(0), jump(1)))
	runs(t, code, nil, []int{1, 1, 0, 0, 0, 0, 1, 1, 0, 0, 0}, api.Run{Emits: emits(1, -5, 0, 0, 0, 1, 1, -5, 0, 2), States: []int{api.TRuns, api.TRuns}, Steps: 11})
}
