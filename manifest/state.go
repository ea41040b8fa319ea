package manifest

import (
	"slices"

	"staddle/api"
	"staddle/edit"
	"staddle/version"
	"staddle/wal"
)

// checkState is what is wrong with a state.
func checkState(s api.State) api.Errno {
	if err := version.Check(s.V); err != api.OK {
		return err
	}
	if err := edit.Check(numbers(s)); err != api.OK {
		return err
	}
	if !mayNumber(s.Num) {
		return api.ErrEditFile
	}
	return api.OK
}

// numbers is an edit that tells a state's numbers, and no file.
func numbers(s api.State) api.Edit {
	return api.Edit{Log: s.Log, Next: s.Next, Last: s.Last}
}

// stateBytes are the bytes of a manifest that tells a state with which nothing is wrong.
func stateBytes(s api.State) []byte {
	// The numbers have a record even where there is no file: a manifest has one at least.
	edits := []api.Edit{numbers(s)}
	for files := range slices.Chunk(slices.Concat(s.V.L[:]...), api.MaxFiles) {
		edits = append(edits, api.Edit{Adds: files})
	}
	var out []byte
	for _, x := range edits {
		// Neither is refused: the files may be together, and a hundred have not the bytes of a record that is too long.
		record, _ := edit.Encode(x)
		more, _ := wal.Put(len(out), record)
		out = append(out, more...)
	}
	return out
}

// learned is a state behind one record more.
func learned(s api.State, record []byte) (api.State, api.Errno) {
	x, err := edit.Decode(record)
	if err != api.OK {
		return api.State{}, err
	}
	if s.V, err = version.Apply(s.V, x); err != api.OK {
		return api.State{}, err
	}
	s.Log, s.Next, s.Last = told(s.Log, x.Log), told(s.Next, x.Next), told(s.Last, x.Last)
	return s, api.OK
}

// told is a number that was n, and perhaps is told anew.
func told(n, anew uint64) uint64 {
	if anew == 0 {
		return n
	}
	return anew
}
