package sched_test

import (
	"math"
	"slices"
	"testing"

	"staddle/api"
	"staddle/sched"
)

func refused(t *testing.T, code [][]api.Inst, cells []int) {
	t.Helper()
	for _, picks := range [][]int{nil, {0, 0, 0}, {-1, 5}} {
		r, err := sched.Run(code, cells, picks)
		if err != api.ErrSchedForm {
			t.Errorf("%v, %d cells: %v", code, len(cells), err)
		}
		if len(r.Cells) != 0 || len(r.Emits) != 0 || len(r.States) != 0 || r.Steps != 0 {
			t.Errorf("%v, %d cells: beside the error %+v", code, len(cells), r)
		}
	}
}

// allow is for tasks that may be; what is asked is that Run tells one state for each.
func allow(t *testing.T, code [][]api.Inst, cells []int) {
	t.Helper()
	for _, picks := range [][]int{nil, {0, 0, 0}, {-1, 5}} {
		r, err := sched.Run(code, cells, picks)
		if err != api.OK || len(r.States) != len(code) || len(r.Cells) != 16 {
			t.Errorf("%v, %d cells: %+v, %v", code, len(cells), r, err)
		}
	}
}

// P5.1: how many tasks, instructions and cells there may be.
func TestHowMany(t *testing.T) {
	allow(t, make([][]api.Inst, 8), nil)
	allow(t, tellers(8), nil)
	refused(t, make([][]api.Inst, 9), nil)
	refused(t, tellers(9), nil)
	refused(t, tellers(100), nil)
	for _, ahead := range [][][]api.Inst{nil, tellers(1), tellers(7)} {
		allow(t, append(slices.Clone(ahead), slices.Repeat(of(end()), 64)), nil)
		refused(t, append(slices.Clone(ahead), slices.Repeat(of(end()), 65)), nil)
	}
	allow(t, nil, make([]int, 16))
	refused(t, nil, make([]int, 17))
	refused(t, tellers(2), make([]int, 17))
	allow(t, slices.Repeat(tasks(slices.Repeat(of(end()), 64)), 8), make([]int, 16))
}

// P5.1: instructions are those of 1 to 14.
func TestOps(t *testing.T) {
	for op := 1; op <= 14; op++ {
		allow(t, tasks(of(api.Inst{Op: op})), nil)
	}
	for _, op := range []int{0, -1, 15, 16, 100, math.MinInt, math.MaxInt} {
		refused(t, tasks(of(api.Inst{Op: op})), nil)
		refused(t, tasks(of(end(), api.Inst{Op: op})), nil)
		refused(t, tasks(of(end()), nil, of(end(), api.Inst{Op: op}, end())), nil)
	}
}

// fields are what A, B and C of each instruction number, by P5.3: a register, a cell (or a mutex, or a condition), a place, or nothing.
var fields = [15]string{
	api.ILoad: "rc-", api.IStore: "cr-", api.ICas: "crr", api.ISet: "r--", api.IAdd: "r--",
	api.IJumpZ: "rp-", api.IJump: "-p-", api.ILock: "c--", api.IUnlock: "c--", api.IWait: "cc-",
	api.ISignal: "c--", api.IBroadcast: "c--", api.IEmit: "r--", api.IEnd: "---",
}

// with is an instruction of which one field is a number, and the others are 0.
func with(op, field, n int) api.Inst {
	in := api.Inst{Op: op}
	*[]*int{&in.A, &in.B, &in.C}[field] = n
	return in
}

// P5.1: in each instruction, each number that it uses must be one; the others may be any.
func TestFields(t *testing.T) {
	far := []int{math.MinInt, -1 << 32, -2, 100, 1 << 32, math.MaxInt}
	edges := map[byte]struct{ good, bad []int }{
		'r': {[]int{0, 1, 2, 3}, append([]int{-1, 4, 15, 16}, far...)},
		'c': {[]int{0, 3, 4, 14, 15}, append([]int{-1, 16, 17}, far...)},
		'-': {append([]int{-1, 0, 3, 4, 15, 16, 64, 65}, far...), nil},
	}
	for op := 1; op <= 14; op++ {
		for field, what := range []byte(fields[op]) {
			for _, n := range edges[what].good {
				allow(t, tasks(of(with(op, field, n))), nil)
			}
			for _, n := range edges[what].bad {
				refused(t, tasks(of(with(op, field, n))), nil)
				refused(t, tasks(nil, of(end(), with(op, field, n))), nil)
			}
		}
	}
}

// P5.1: a place is 0 to how many instructions its own task has.
func TestPlaces(t *testing.T) {
	for _, op := range []int{api.IJump, api.IJumpZ} {
		for many := 1; many <= 64; many++ {
			jumps := func(at, place int) [][]api.Inst {
				task := slices.Repeat(of(end()), many)
				task[at] = with(op, 1, place)
				return tasks(slices.Repeat(of(end()), 64), task, of(end()))
			}
			for _, at := range []int{0, many - 1} {
				for _, place := range []int{0, many - 1, many} {
					allow(t, jumps(at, place), nil)
				}
				for _, place := range []int{-1, many + 1, many + 2, math.MinInt, math.MaxInt} {
					refused(t, jumps(at, place), nil)
				}
			}
		}
	}
}

// P5.1: what is never reached is refused too.
func TestUnreached(t *testing.T) {
	refused(t, tasks(of(end(), lock(16))), nil)
	refused(t, tasks(of(jump(2), api.Inst{})), nil)
	refused(t, tasks(of(unlock(0), emit(4))), nil)
}
