package sched

import "staddle/api"

// registers is how many each task has.
const registers = 4

// allowed is whether tasks and cells are such as Run takes.
func allowed(code [][]api.Inst, cells []int) bool {
	if len(code) > api.MaxTasks || len(cells) > api.MaxCells {
		return false
	}
	for _, c := range code {
		if !taskAllowed(c) {
			return false
		}
	}
	return true
}

func taskAllowed(code []api.Inst) bool {
	if len(code) > api.MaxCode {
		return false
	}
	for _, in := range code {
		if !instAllowed(in, len(code)) {
			return false
		}
	}
	return true
}

// instAllowed is for an instruction of a task that has so many; numbers that the instruction does not use may be any.
func instAllowed(in api.Inst, many int) bool {
	switch in.Op {
	case api.ILoad:
		return isRegister(in.A) && isShared(in.B)
	case api.IStore:
		return isShared(in.A) && isRegister(in.B)
	case api.ICas:
		return isShared(in.A) && isRegister(in.B) && isRegister(in.C)
	case api.ISet, api.IAdd, api.IEmit:
		return isRegister(in.A)
	case api.IJumpZ:
		if !isRegister(in.A) {
			return false
		}
		fallthrough
	case api.IJump:
		return in.B >= 0 && in.B <= many
	case api.IWait:
		if !isShared(in.B) {
			return false
		}
		fallthrough
	case api.ILock, api.IUnlock, api.ISignal, api.IBroadcast:
		return isShared(in.A)
	case api.IEnd:
		return true
	}
	return false
}

func isRegister(n int) bool { return n >= 0 && n < registers }

// isShared is whether it numbers a cell, a mutex or a condition: there are as many of each.
func isShared(n int) bool { return n >= 0 && n < api.MaxCells }
