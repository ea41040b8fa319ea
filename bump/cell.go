package bump

import (
	"staddle/api"
)

// Cell gives out a cell: its number.
func (a *Arena) Cell() (int, api.Errno) {
	if a == nil {
		return 0, api.ErrArg
	}
	if err := a.give(cellRoom); err != api.OK {
		return 0, err
	}
	cell := a.count
	a.count++
	return cell, api.OK
}

// Load is what a cell holds.
func (a *Arena) Load(cell int) (int, api.Errno) {
	if !a.has(cell) {
		return 0, api.ErrArg
	}
	return a.cells[cell], api.OK
}

// Store lays a number into a cell.
func (a *Arena) Store(cell, n int) api.Errno {
	if !a.has(cell) {
		return api.ErrArg
	}
	a.cells[cell] = n
	return api.OK
}

// Cas lays a number into a cell that holds another one: whether it did.
func (a *Arena) Cas(cell, old, n int) (bool, api.Errno) {
	if !a.has(cell) {
		return false, api.ErrArg
	}
	if a.cells[cell] != old {
		return false, api.OK
	}
	a.cells[cell] = n
	return true, api.OK
}

// has is whether there is such a cell; a nil arena has none.
func (a *Arena) has(cell int) bool {
	return a != nil && cell >= 0 && cell < a.count
}
