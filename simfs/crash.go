package simfs

import (
	"maps"
)

// Crash is what a loss of power leaves.
func (f *FS) Crash(picks []int) {
	if f == nil {
		return
	}
	f.settle(pickAt(picks, 0) % (len(f.since) + 1))
	f.names = maps.Clone(f.lasting)
	f.used = 0
	for i, name := range f.names.rising() {
		x := f.names[name]
		x.cut(pickAt(picks, i+1))
		f.used += len(x.bytes)
	}
	f.fuse, f.failure = countdown{}, countdown{}
}

// Copy is another one, likewise.
func (f *FS) Copy() *FS {
	if f == nil {
		return nil
	}
	other := *f
	other.names, other.lasting, other.since = nil, nil, nil
	for name, x := range f.lasting {
		y := x.copy()
		other.lasting.do(renaming{to: name, made: y})
		other.names.do(renaming{to: name, made: y})
	}
	// Each file is copied just once, here or above: a change that makes none names one that was there.
	for _, r := range f.since {
		if r.made != nil {
			r.made = r.made.copy()
		}
		other.rename(r)
	}
	return &other
}

// settle makes the first changes of names last, and forgets the others.
func (f *FS) settle(count int) {
	for _, r := range f.since[:count] {
		f.lasting.do(r)
	}
	f.since = nil
}

// pickAt is a number of 0 or more, whatever stands at a place, or if nothing does.
func pickAt(picks []int, at int) int {
	if at >= len(picks) {
		return 0
	}
	if p := picks[at]; p < 0 {
		return -1 - p
	}
	return picks[at]
}
