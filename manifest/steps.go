package manifest

import (
	"staddle/api"
	"staddle/simfs"
)

// step is one of those of a change.
type step func() api.Errno

// done goes through steps till one fails, and tells why that did.
func done(steps []step) (err api.Errno) {
going:
	for _, next := range steps {
		if err = next(); err != api.OK {
			break going
		}
	}
	return err
}

// laidWhole are the steps that lay bytes into a file of a name, in place of any that has it. They last ahead of the name: with an error or a crash the name's file is as it was, or has them all.
func laidWhole(f *simfs.FS, name string, b []byte) []step {
	temp := Name(api.NTemp, 0)
	return []step{
		func() api.Errno { return removed(f, temp) },
		func() api.Errno { return f.Create(temp) },
		func() api.Errno { return f.Append(temp, b) },
		func() api.Errno { return f.Sync(temp) },
		func() api.Errno { return f.Rename(temp, name) },
	}
}

// removed takes a file away, if it is there: one may be left by a change that was cut.
func removed(f *simfs.FS, name string) api.Errno {
	// Asked by reading: a Remove of nothing would be a change, and its error would have to be told.
	switch _, err := f.Read(name); err {
	case api.OK:
		return f.Remove(name)
	case api.ErrFsNone:
		return api.OK
	default:
		return err
	}
}
