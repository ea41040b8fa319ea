package sched

import "staddle/api"

// phase is what a task is at, whatever the others have.
type phase int

const (
	goes  phase = iota
	waits       // for the condition of the IWait at its place
	told        // of that condition: the IWait is done when it has the mutex
	ended
	bad
)

// task is instructions, and how far they were done.
type task struct {
	number    int
	code      []api.Inst
	place     int
	registers [registers]int
	phase     phase
}

// goTo ends the task where no instruction is left.
func (t *task) goTo(place int) {
	t.place = place
	if place == len(t.code) {
		t.phase = ended
	}
}

// wants is the mutex without which a task that goes, or was told, can do nothing.
func (t *task) wants() (int, bool) {
	in := t.code[t.place]
	switch {
	case t.phase == told:
		return in.B, true
	case in.Op == api.ILock:
		return in.A, true
	}
	return 0, false
}

// do does one instruction of a task that can go.
func (b *board) do(t *task) {
	in, next := t.code[t.place], t.place+1
	switch in.Op {
	case api.ILoad:
		t.registers[in.A] = b.cells[in.B]
	case api.IStore:
		b.cells[in.A] = t.registers[in.B]
	case api.ICas:
		b.swap(t, in)
	case api.ISet:
		t.registers[in.A] = 0
		fallthrough
	case api.IAdd:
		t.registers[in.A] += in.B
	case api.IJumpZ:
		if t.registers[in.A] != 0 {
			break
		}
		fallthrough
	case api.IJump:
		next = in.B
	case api.IWait:
		if t.phase == goes {
			b.release(t, in.B, waits)
			return
		}
		// Told, all that is left of it is a lock of its mutex, which stands in B.
		t.phase, in.A = goes, in.B
		fallthrough
	case api.ILock:
		b.owners[in.A] = t
	case api.IUnlock:
		b.release(t, in.A, goes)
	case api.ISignal, api.IBroadcast:
		b.tell(in)
	case api.IEmit:
		b.emits = append(b.emits, api.Emit{Task: t.number, Value: t.registers[in.A]})
	case api.IEnd:
		t.phase = ended
	}
	if t.phase == goes {
		t.goTo(next)
	}
}

// swap reads all registers ahead of writing the last one, which may be any of them.
func (b *board) swap(t *task, in api.Inst) {
	done := 0
	if b.cells[in.A] == t.registers[in.B] {
		b.cells[in.A] = t.registers[in.C]
		done = 1
	}
	t.registers[registers-1] = done
}

// release makes a mutex nobody's, and the task be at what is behind that; it is bad if the mutex was not its own.
func (b *board) release(t *task, mutex int, behind phase) {
	if b.owners[mutex] != t {
		t.phase = bad
		return
	}
	b.owners[mutex] = nil
	t.phase = behind
}

// tell tells the first task that waits for the condition, or, by a broadcast, all of them.
func (b *board) tell(in api.Inst) {
	for _, t := range b.tasks {
		if t.phase != waits || t.code[t.place].A != in.A {
			continue
		}
		t.phase = told
		if in.Op == api.ISignal {
			return
		}
	}
}
