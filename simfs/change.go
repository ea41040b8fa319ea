package simfs

import (
	"staddle/api"
)

// Create makes an empty file.
func (f *FS) Create(name string) api.Errno {
	if err := f.begin(); err != api.OK {
		return err
	}
	if !mayName(name) {
		return api.ErrFsName
	}
	if f.names[name] != nil {
		return api.ErrFsExists
	}
	f.rename(renaming{to: name, made: &file{}})
	return api.OK
}

// Append lays bytes behind a file's.
func (f *FS) Append(name string, b []byte) api.Errno {
	x, err := f.beginOf(name)
	if err != api.OK {
		return err
	}
	if f.used+len(b) > f.quota {
		return api.ErrFsFull
	}
	x.bytes = append(x.bytes, b...)
	f.used += len(b)
	return api.OK
}

// Sync makes a file's bytes last.
func (f *FS) Sync(name string) api.Errno {
	x, err := f.beginOf(name)
	if err != api.OK {
		return err
	}
	x.lasting = len(x.bytes)
	return api.OK
}

// Rename gives a file another name; one that has it is gone.
func (f *FS) Rename(from, to string) api.Errno {
	if _, err := f.beginOf(from); err != api.OK {
		return err
	}
	if !mayName(to) {
		return api.ErrFsName
	}
	if over := f.names[to]; over != nil && to != from {
		f.used -= len(over.bytes)
	}
	f.rename(renaming{from: from, to: to})
	return api.OK
}

// Remove takes a file away.
func (f *FS) Remove(name string) api.Errno {
	x, err := f.beginOf(name)
	if err != api.OK {
		return err
	}
	f.used -= len(x.bytes)
	f.rename(renaming{from: name})
	return api.OK
}

// SyncDir makes the names last.
func (f *FS) SyncDir() api.Errno {
	if err := f.begin(); err != api.OK {
		return err
	}
	f.settle(len(f.since))
	return api.OK
}

// begin is what every change does ahead of all else.
func (f *FS) begin() api.Errno {
	if f == nil {
		return api.ErrArg
	}
	f.ops++
	if f.fuse.over() {
		return api.ErrFsDown
	}
	f.fuse.step()
	if f.failure.over() {
		f.failure = countdown{}
		return api.ErrFsIo
	}
	f.failure.step()
	return api.OK
}

// beginOf begins a change of a file that must be there.
func (f *FS) beginOf(name string) (*file, api.Errno) {
	if err := f.begin(); err != api.OK {
		return nil, err
	}
	x := f.names[name]
	if x == nil {
		return nil, api.ErrFsNone
	}
	return x, api.OK
}

// rename changes names, and keeps the change, since a crash may take it back.
func (f *FS) rename(r renaming) {
	f.names.do(r)
	f.since = append(f.since, r)
}

func mayName(name string) bool {
	return len(name) >= 1 && len(name) <= api.MaxName
}
