package sched_test

import (
	"math"
	"math/rand"
	"slices"
	"testing"

	"staddle/api"
	"staddle/sched"
)

// model is a run that asks the code anew what each task wants, and keeps what was done in plain lists of numbers.
type model struct {
	code               [][]api.Inst
	cells              [16]int
	owner              [16]int // a task's number and 1
	place, waits, told []int   // waits is a condition and 1
	ends, bad          []bool
	regs               [][4]int
	emits              []api.Emit
	steps              int
}

func newModel(code [][]api.Inst, told []int) *model {
	n := len(code)
	m := &model{code: code, place: zeros(n), waits: zeros(n), told: zeros(n), ends: make([]bool, n), bad: make([]bool, n), regs: make([][4]int, n)}
	copy(m.cells[:], told)
	return m
}

func (m *model) over(i int) bool { return m.ends[i] || m.place[i] == len(m.code[i]) }

func (m *model) free(i int) bool {
	if m.over(i) || m.bad[i] || m.waits[i] != 0 {
		return false
	}
	in := m.code[i][m.place[i]]
	if in.Op == api.IWait && m.told[i] == 1 {
		return m.owner[in.B] == 0
	}
	return in.Op != api.ILock || m.owner[in.A] == 0
}

func (m *model) pick(n int) {
	var able []int
	for i := range m.code {
		if m.free(i) {
			able = append(able, i)
		}
	}
	if able == nil {
		return
	}
	u := uint64(n)
	if n < 0 {
		u = ^u
	}
	m.steps++
	m.step(able[u%uint64(len(able))])
}

func (m *model) step(i int) {
	in, reg := m.code[i][m.place[i]], &m.regs[i]
	if in.Op == api.IJump || in.Op == api.IJumpZ && reg[in.A] == 0 {
		m.place[i] = in.B
		return
	}
	if in.Op == api.IUnlock && m.owner[in.A] != i+1 || in.Op == api.IWait && m.told[i] == 0 && m.owner[in.B] != i+1 {
		m.bad[i] = true
		return
	}
	if in.Op == api.IWait && m.told[i] == 0 {
		m.owner[in.B], m.waits[i] = 0, in.A+1
		return
	}
	m.place[i]++
	switch in.Op {
	case api.ILoad:
		reg[in.A] = m.cells[in.B]
	case api.IStore:
		m.cells[in.A] = reg[in.B]
	case api.ICas:
		if m.cells[in.A] != reg[in.B] {
			reg[3] = 0
		} else {
			m.cells[in.A], reg[3] = reg[in.C], 1
		}
	case api.ISet:
		reg[in.A] = in.B
	case api.IAdd:
		reg[in.A] += in.B
	case api.ILock:
		m.owner[in.A] = i + 1
	case api.IUnlock:
		m.owner[in.A] = 0
	case api.IWait:
		m.owner[in.B], m.told[i] = i+1, 0
	case api.ISignal:
		m.tell(in.A, 1)
	case api.IBroadcast:
		m.tell(in.A, len(m.code))
	case api.IEmit:
		m.emits = append(m.emits, api.Emit{Task: i, Value: reg[in.A]})
	case api.IEnd:
		m.ends[i] = true
	}
}

func (m *model) tell(condition, many int) {
	for i := range m.code {
		if many > 0 && m.waits[i] == condition+1 {
			m.waits[i], m.told[i] = 0, 1
			many--
		}
	}
}

func (m *model) run() api.Run {
	states := zeros(len(m.code))
	for i := range states {
		if m.bad[i] {
			states[i] = api.TBad
		} else if m.over(i) {
			states[i] = api.TEnds
		} else if !m.free(i) {
			states[i] = api.TWaits
		}
	}
	return api.Run{Cells: m.cells[:], Emits: m.emits, States: states, Steps: m.steps}
}

// chance makes tasks of few cells, so that they meet.
type chance struct{ *rand.Rand }

func (c chance) inst(many, few int) api.Inst {
	shared, reg := c.Intn(few), c.Intn(4)
	value := []int{0, 1, -1, 2, math.MaxInt, math.MinInt}[c.Intn(6)]
	switch op := 1 + c.Intn(18); op {
	case api.ILoad:
		return load(reg, shared)
	case api.IStore:
		return store(shared, reg)
	case api.ICas:
		return cas(shared, reg, c.Intn(4))
	case api.ISet:
		return set(reg, value)
	case api.IAdd:
		return add(reg, value)
	case api.IJumpZ:
		return jumpZ(reg, c.Intn(many+1))
	case api.IJump:
		return jump(c.Intn(many + 1))
	case api.ILock, 15, 16:
		return lock(shared)
	case api.IUnlock:
		return unlock(shared)
	case api.IWait, 17:
		return wait(c.Intn(few), shared)
	case api.ISignal:
		return signal(shared)
	case api.IBroadcast, 18:
		return broadcast(shared)
	case api.IEmit:
		return emit(reg)
	}
	return end()
}

func (c chance) task(few int) []api.Inst {
	many := c.Intn(12)
	if c.Intn(50) == 0 {
		many = 64
	}
	out := make([]api.Inst, many)
	for i := range out {
		out[i] = c.inst(many, few)
	}
	return out
}

func (c chance) input() ([][]api.Inst, []int, []int) {
	few := []int{1, 2, 3, 16}[c.Intn(4)]
	code := make([][]api.Inst, c.Intn(9))
	for i := range code {
		code[i] = c.task(few)
	}
	told := make([]int, c.Intn(17))
	for i := range told {
		told[i] = c.Intn(4) - 1
	}
	picks := make([]int, c.Intn(120))
	for i := range picks {
		picks[i] = []int{c.Intn(8), -c.Intn(9), c.Int(), -c.Int() - 1}[c.Intn(4)]
	}
	return code, told, picks
}

// P5.2 to P5.5: whatever is run, it tells what the model tells, and each run with fewer picks is a beginning of it.
func TestByChance(t *testing.T) {
	c := chance{rand.New(rand.NewSource(5))}
	for range 3000 {
		code, told, picks := c.input()
		m := newModel(code, told)
		for n := 0; ; n++ {
			r, err := sched.Run(code, told, picks[:n])
			if err != api.OK || !same(r, m.run()) {
				t.Fatalf("%v, %d, picks %d:\n got %+v, %v\nwant %+v", code, told, picks[:n], r, err, m.run())
			}
			if n == len(picks) {
				break
			}
			m.pick(picks[n])
		}
	}
}

// P5.5: a run with fewer picks is a beginning; what is picked when no task can go is not used.
func TestBeginnings(t *testing.T) {
	c := chance{rand.New(rand.NewSource(55))}
	for range 500 {
		code, told, picks := c.input()
		whole := ran(t, code, told, picks)
		if used := ran(t, code, told, picks[:whole.Steps]); !same(used, whole) {
			t.Fatalf("%d picks were used of %d: %+v, %+v", whole.Steps, len(picks), used, whole)
		}
		if whole.Steps < len(picks) {
			more := append(slices.Clone(picks[:whole.Steps]), c.Int(), -1, 0)
			if r := ran(t, code, told, more); !same(r, whole) {
				t.Fatalf("other picks when no task can go: %+v, %+v", r, whole)
			}
		}
		for n := range len(picks) {
			r := ran(t, code, told, picks[:n])
			if r.Steps != min(n, whole.Steps) || !slices.Equal(r.Emits, whole.Emits[:len(r.Emits)]) {
				t.Fatalf("%d picks of %d: %+v, %+v", n, len(picks), r, whole)
			}
			for i, s := range r.States {
				if s >= api.TEnds && whole.States[i] != s {
					t.Fatalf("a task that was %d is %d", s, whole.States[i])
				}
			}
		}
	}
}

// P5.5: two tasks never have one mutex: what each does between lock and unlock is not cut by the others', whatever is picked, and waiting for a condition lets nobody in beside.
func TestOneHasTheMutex(t *testing.T) {
	counts := of(lock(0), load(0, 0), emit(0), add(0, 1), store(0, 0), unlock(0))
	waits := of(lock(0), load(0, 1), jumpZ(0, 4), jump(6), wait(3, 0), jump(1), load(0, 0), emit(0), add(0, 1), store(0, 0), unlock(0))
	tells := of(lock(0), set(0, 1), store(1, 0), broadcast(3), load(0, 0), emit(0), add(0, 1), store(0, 0), unlock(0))
	code := tasks(waits, counts, waits, tells, counts, waits, waits, counts)
	c := chance{rand.New(rand.NewSource(555))}
	for range 500 {
		picks := make([]int, 300)
		for i := range picks {
			picks[i] = c.Intn(1000) - 500
		}
		r := ran(t, code, nil, picks)
		if r.Cells[0] != 8 || len(r.Emits) != 8 || slices.ContainsFunc(r.States, func(s int) bool { return s != api.TEnds }) {
			t.Fatalf("picks %d: %+v", picks, r)
		}
		for i, e := range r.Emits {
			if e.Value != i {
				t.Fatalf("picks %d: %+v", picks, r)
			}
		}
	}
}
