package sched_test

import (
	"math"
	"slices"
	"testing"

	"staddle/api"
)

// alone runs one task to its end: what it told, and the cells.
func alone(t *testing.T, told []int, task ...api.Inst) ([]int, []int) {
	t.Helper()
	r := ran(t, tasks(task), told, zeros(200))
	var values []int
	for _, e := range r.Emits {
		if e.Task != 0 {
			t.Errorf("the task is %d", e.Task)
		}
		values = append(values, e.Value)
	}
	return values, r.Cells
}

func tells(t *testing.T, told []int, task []api.Inst, values, behind []int) {
	t.Helper()
	v, c := alone(t, told, task...)
	if !slices.Equal(v, values) || !slices.Equal(c, cells(behind...)) {
		t.Errorf("%v of %d: %d, cells %d", task, told, v, c)
	}
}

// P5.3: ILoad and IStore, each register and each cell.
func TestLoadStore(t *testing.T) {
	given := []int{10, 11, 12, 13, 14, 15, 16, 17, 18, 19, 20, 21, 22, 23, 24, 25}
	for r := range 4 {
		for c := range 16 {
			tells(t, given, of(load(r, c), emit(r)), []int{10 + c}, given)
			behind := slices.Clone(given)
			behind[c] = -7
			tells(t, given, of(set(r, -7), store(c, r)), nil, behind)
			others := of(load(r, c))
			for x := range 4 {
				others = append(others, emit(x))
			}
			want := zeros(4)
			want[r] = 10 + c
			tells(t, given, others, want, given)
		}
	}
}

// P5.3: ICas changes the cell, and tells so by register 3, only if the cell is register B.
func TestCas(t *testing.T) {
	for c := range 16 {
		before := zeros(16)
		before[c] = 5
		behind := zeros(16)
		behind[c] = 9
		tells(t, before, of(set(1, 5), set(2, 9), set(3, 8), cas(c, 1, 2), emit(3), emit(1), emit(2)), []int{1, 5, 9}, behind)
		tells(t, before, of(set(1, 6), set(2, 9), set(3, 8), cas(c, 1, 2), emit(3), emit(1), emit(2)), []int{0, 6, 9}, before)
	}
	tells(t, []int{5}, of(set(0, 5), cas(0, 0, 0), emit(3), emit(0)), []int{1, 5}, []int{5})
	tells(t, []int{5}, of(set(3, 5), set(0, 6), cas(0, 3, 0), emit(3)), []int{1}, []int{6})
	tells(t, []int{5}, of(set(3, 6), set(0, 6), cas(0, 3, 0), emit(3)), []int{0}, []int{5})
	tells(t, []int{5}, of(set(0, 5), set(3, 8), cas(0, 0, 3), emit(3)), []int{1}, []int{8})
	tells(t, []int{5}, of(set(0, 4), set(3, 8), cas(0, 0, 3), emit(3)), []int{0}, []int{5})
	tells(t, []int{5}, of(set(3, 5), cas(0, 3, 3), emit(3)), []int{1}, []int{5})
	tells(t, nil, of(set(2, -1), cas(7, 0, 2), cas(7, 0, 2), emit(3)), []int{0}, []int{0, 0, 0, 0, 0, 0, 0, -1})
}

// P5.3: ISet and IAdd; adding goes round.
func TestSetAdd(t *testing.T) {
	least, most := math.MinInt, math.MaxInt
	for r := range 4 {
		tells(t, nil, of(set(r, 3), set(r, 8), emit(r)), []int{8}, nil)
		tells(t, nil, of(set(r, least), emit(r), set(r, most), emit(r), set(r, 0), emit(r)), []int{least, most, 0}, nil)
		tells(t, nil, of(add(r, 3), emit(r), add(r, 8), emit(r), add(r, -20), emit(r)), []int{3, 11, -9}, nil)
		tells(t, nil, of(set(r, most), add(r, 1), emit(r)), []int{least}, nil)
		tells(t, nil, of(set(r, least), add(r, -1), emit(r)), []int{most}, nil)
		tells(t, nil, of(add(r, least), add(r, least), emit(r), add(r, most), add(r, most), emit(r)), []int{0, -2}, nil)
	}
}

// P5.3: IJumpZ goes only at 0; IJump always.
func TestJumps(t *testing.T) {
	for r := range 4 {
		for n, want := range map[int][]int{0: {0, 2}, 1: {0, 1, 2}, -1: {0, 1, 2}, math.MinInt: {0, 1, 2}} {
			other := (r + 1) % 4
			tells(t, nil, of(emit(other), set(r, n), jumpZ(r, 5), set(other, 1), emit(other), set(other, 2), emit(other)), want, nil)
		}
	}
	tells(t, nil, of(set(0, 1), jump(3), emit(0), add(0, 1), emit(0)), []int{2}, nil)
	tells(t, nil, of(set(0, 3), emit(0), add(0, -1), jumpZ(0, 5), jump(1)), []int{3, 2, 1}, nil)
	tells(t, nil, of(jumpZ(0, 3), emit(0), end(), set(0, 4), jump(1)), []int{4}, nil)
	runs(t, tasks(of(jump(0))), nil, zeros(9), api.Run{States: []int{api.TRuns}, Steps: 9})
	runs(t, tasks(of(jumpZ(3, 0))), nil, zeros(9), api.Run{States: []int{api.TRuns}, Steps: 9})
	whole := append(slices.Repeat(of(add(0, 1)), 62), emit(0), jump(64))
	runs(t, tasks(whole), nil, zeros(70), api.Run{Emits: emits(0, 62), States: []int{api.TEnds}, Steps: 64})
}

// P5.3: a mutex that another task has is wanted, till it is nobody's; a task that wants one does nothing, and takes no step.
func TestLock(t *testing.T) {
	for m := range 16 {
		code := tasks(of(lock(m), emit(0), unlock(m), emit(0)), of(lock(m), emit(0), unlock(m)))
		runs(t, code, nil, []int{0}, api.Run{States: []int{api.TRuns, api.TWaits}, Steps: 1})
		runs(t, code, nil, []int{1}, api.Run{States: []int{api.TWaits, api.TRuns}, Steps: 1})
		runs(t, code, nil, []int{0, 1, 1}, api.Run{Emits: emits(0, 0), States: []int{api.TRuns, api.TRuns}, Steps: 3})
		runs(t, code, nil, []int{0, 1, 1, 1}, api.Run{Emits: emits(0, 0), States: []int{api.TRuns, api.TRuns}, Steps: 4})
		runs(t, code, nil, []int{0, 1, 1, 1, 0}, api.Run{Emits: emits(0, 0, 0, 0), States: []int{api.TEnds, api.TRuns}, Steps: 5})
		runs(t, code, nil, zeros(20), api.Run{Emits: emits(0, 0, 0, 0, 1, 0), States: []int{api.TEnds, api.TEnds}, Steps: 7})
		other := (m + 1) % 16
		runs(t, tasks(of(lock(m), end()), of(lock(other), end())), nil, []int{0, 1}, api.Run{States: []int{api.TRuns, api.TRuns}, Steps: 2})
	}
}

// P5.3: who of those that want a mutex has it is picked too: there is no queue.
func TestLockIsPicked(t *testing.T) {
	takes := of(lock(2), emit(0), unlock(2))
	code := tasks(takes, takes, takes)
	runs(t, code, nil, []int{1, 0, 0, 1, 0, 0, 0, 0, 0}, api.Run{Emits: emits(1, 0, 2, 0, 0, 0), States: []int{api.TEnds, api.TEnds, api.TEnds}, Steps: 9})
}

// P5.3, P5.4: mutexes of the task itself, and of tasks that ended or are bad, are never to be had.
func TestLockForEver(t *testing.T) {
	runs(t, tasks(of(lock(0), lock(0), emit(0))), nil, zeros(5), api.Run{States: []int{api.TWaits}, Steps: 1})
	runs(t, tasks(of(lock(0), lock(1), lock(0), emit(0))), nil, zeros(5), api.Run{States: []int{api.TWaits}, Steps: 2})
	for name, task := range map[string][]api.Inst{
		"ended":             of(lock(0), end()),
		"at its end":        of(lock(0), set(0, 1)),
		"by a jump":         of(lock(0), jump(3), end()),
		"bad by an unlock":  of(lock(0), unlock(1)),
		"bad by a wait":     of(lock(0), wait(0, 1)),
		"bad, and not over": of(lock(0), unlock(1), unlock(0), end()),
	} {
		r := ran(t, tasks(task, of(lock(0), emit(0))), nil, zeros(5))
		if len(r.Emits) != 0 || r.States[1] != api.TWaits || r.Steps != 2 {
			t.Errorf("%s: %+v", name, r)
		}
	}
	two := tasks(of(lock(0), lock(1)), of(lock(1), lock(0)))
	runs(t, two, nil, []int{0, 1, 0, 0, 1}, api.Run{States: []int{api.TWaits, api.TWaits}, Steps: 2})
}

// P5.3: an Unlock and a Wait of a mutex that is not the task's: nobody's, another one's, or one that it had.
func TestBad(t *testing.T) {
	for m := range 16 {
		other := (m + 5) % 16
		for _, leaves := range [][]api.Inst{of(unlock(m), emit(0)), of(wait(3, m), emit(0)), of(unlock(m)), of(wait(3, m))} {
			runs(t, tasks(leaves), nil, zeros(3), api.Run{States: []int{api.TBad}, Steps: 1})
			runs(t, tasks(append(of(lock(other)), leaves...)), nil, zeros(4), api.Run{States: []int{api.TBad}, Steps: 2})
			runs(t, tasks(append(of(lock(m), unlock(m)), leaves...)), nil, zeros(5), api.Run{States: []int{api.TBad}, Steps: 3})
			runs(t, tasks(leaves, of(lock(m), lock(other), end())), nil, []int{1, 0, 0}, api.Run{States: []int{api.TBad, api.TRuns}, Steps: 3})
			runs(t, tasks(of(lock(m), unlock(m), emit(0)), leaves), nil, []int{0, 1, 0, 0}, api.Run{Emits: emits(0, 0), States: []int{api.TEnds, api.TBad}, Steps: 4})
		}
	}
}

// P5.3: a task that is bad is not told, though it was at a Wait.
func TestBadIsNotTold(t *testing.T) {
	code := tasks(of(wait(0, 0), emit(0)), of(lock(0), wait(0, 0), emit(0)), of(signal(0)))
	runs(t, code, nil, zeros(9), api.Run{Emits: emits(1, 0), States: []int{api.TBad, api.TEnds, api.TEnds}, Steps: 6})
}

// P5.3: a Wait makes its mutex nobody's, and no other one.
func TestWaitLetsGo(t *testing.T) {
	for c := range 16 {
		for m := range 16 {
			other := (m + 1) % 16
			waiter := of(lock(m), lock(other), wait(c, m), emit(0))
			code := tasks(waiter, of(lock(m), emit(0)), of(lock(other), emit(0)))
			runs(t, code, nil, zeros(9), api.Run{Emits: emits(1, 0), States: []int{api.TWaits, api.TEnds, api.TWaits}, Steps: 5})
		}
	}
}

// P5.3: told, the task wants its mutex: having it is a step of its own.
func TestToldWantsItsMutex(t *testing.T) {
	for c := range 16 {
		for m := range 16 {
			code := tasks(of(lock(m), wait(c, m), emit(0), unlock(m)), of(lock(m), signal(c), set(0, 1), unlock(m)))
			picks := zeros(4)
			runs(t, code, nil, picks[:2], api.Run{States: []int{api.TWaits, api.TRuns}, Steps: 2})
			runs(t, code, nil, picks[:4], api.Run{States: []int{api.TWaits, api.TRuns}, Steps: 4})
			picks = append(picks, 0)
			runs(t, code, nil, picks, api.Run{States: []int{api.TWaits, api.TRuns}, Steps: 5})
			picks = append(picks, 0)
			runs(t, code, nil, picks, api.Run{States: []int{api.TRuns, api.TEnds}, Steps: 6})
			picks = append(picks, 0)
			runs(t, code, nil, picks, api.Run{States: []int{api.TRuns, api.TEnds}, Steps: 7})
			picks = append(picks, 0)
			runs(t, code, nil, picks, api.Run{Emits: emits(0, 0), States: []int{api.TRuns, api.TEnds}, Steps: 8})
			picks = append(picks, 0, 0)
			runs(t, code, nil, picks, api.Run{Emits: emits(0, 0), States: []int{api.TEnds, api.TEnds}, Steps: 9})
		}
	}
}

// P5.3: a task that was told and wants its mutex can have it when it is nobody's, and then others can't.
func TestToldHasItsMutex(t *testing.T) {
	code := tasks(of(lock(1), wait(0, 1), end()), of(signal(0), lock(1), emit(0)))
	runs(t, code, nil, []int{0, 0, 0}, api.Run{States: []int{api.TRuns, api.TRuns}, Steps: 3})
	runs(t, code, nil, []int{0, 0, 0, 0}, api.Run{States: []int{api.TRuns, api.TWaits}, Steps: 4})
	runs(t, code, nil, []int{0, 0, 0, 1}, api.Run{States: []int{api.TWaits, api.TRuns}, Steps: 4})
	last := tasks(of(lock(1), wait(0, 1)), of(signal(0), lock(1), emit(0)))
	runs(t, last, nil, zeros(9), api.Run{States: []int{api.TEnds, api.TWaits}, Steps: 4})
}

// P5.3: a task that was told already is not told again; one that waits anew is.
func TestToldOnce(t *testing.T) {
	waiter := of(lock(0), wait(0, 0), emit(0), unlock(0))
	tellsTwice := of(signal(0), signal(0))
	runs(t, tasks(waiter, tellsTwice), nil, zeros(20), api.Run{Emits: emits(0, 0), States: []int{api.TEnds, api.TEnds}, Steps: 7})
	runs(t, tasks(waiter, waiter, tellsTwice), nil, []int{0, 0, 0, 0, 0, 1, 0, 0, 0, 0, 0, 0}, api.Run{Emits: emits(0, 0, 1, 0), States: []int{api.TEnds, api.TEnds, api.TEnds}, Steps: 12})
	anew := of(lock(0), wait(0, 0), emit(0), jump(1))
	runs(t, tasks(anew, of(signal(0), signal(0))), nil, []int{0, 0, 1, 0, 0, 0, 0, 0, 0, 0, 0, 0}, api.Run{Emits: emits(0, 0, 0, 0), States: []int{api.TWaits, api.TEnds}, Steps: 12})
}

// waiters are tasks of which each waits for the condition 4 by a mutex of its own, and tells its number.
func waiters(n int) [][]api.Inst {
	var out [][]api.Inst
	for i := range n {
		out = append(out, of(lock(i), wait(4, i), set(0, 100+i), emit(0)))
	}
	return out
}

// P5.3: a Signal tells the first one of those that wait, by its number, whoever waited first; a Broadcast all.
func TestSignalBroadcast(t *testing.T) {
	for _, n := range []int{0, 1, 2, 7} {
		waiting, upward, downward := make([]int, n), zeros(2*n), []int{}
		for i := range n {
			waiting[i] = api.TWaits
			downward = append(downward, n-1-i, n-1-i)
		}
		for _, picks := range [][]int{upward, downward} {
			code := append(waiters(n), of(signal(3), signal(4), end()))
			states := append(slices.Clone(waiting), api.TRuns)
			runs(t, code, nil, append(slices.Clone(picks), 0), api.Run{States: states, Steps: 2*n + 1})
			want := api.Run{States: states, Steps: 2*n + 2}
			if n > 0 {
				states[0] = api.TRuns
			}
			runs(t, code, nil, append(slices.Clone(picks), 0, 0), want)

			code[n] = of(broadcast(5), broadcast(4), end())
			states = append(slices.Clone(waiting), api.TRuns)
			runs(t, code, nil, append(slices.Clone(picks), 0), api.Run{States: states, Steps: 2*n + 1})
			runs(t, code, nil, append(slices.Clone(picks), 0, 0), api.Run{States: zeros(n + 1), Steps: 2*n + 2})
		}
	}
}

// P5.3: several Signals tell one task each, rising; what is told behind them is not kept for those that wait later.
func TestSignals(t *testing.T) {
	code := append(waiters(3), of(signal(4), signal(4), end()))
	runs(t, code, nil, zeros(26), api.Run{Emits: emits(0, 100, 1, 101), States: []int{api.TEnds, api.TEnds, api.TWaits, api.TEnds}, Steps: 15})
	late := tasks(of(signal(0), broadcast(0), emit(0)), of(lock(0), wait(0, 0)))
	runs(t, late, nil, zeros(9), api.Run{Emits: emits(0, 0), States: []int{api.TEnds, api.TWaits}, Steps: 5})
}

// P5.3: IEmit tells each register; IEnd ends, whatever is behind it.
func TestEmitEnd(t *testing.T) {
	for r := range 4 {
		task := of(set(0, 10), set(1, 11), set(2, 12), set(3, 13), emit(r), end(), emit(0))
		runs(t, tasks(nil, task), nil, zeros(9), api.Run{Emits: emits(1, 10+r), States: []int{api.TEnds, api.TEnds}, Steps: 6})
	}
	runs(t, tasks(of(end(), jump(0))), nil, zeros(9), api.Run{States: []int{api.TEnds}, Steps: 1})
}
