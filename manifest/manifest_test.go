package manifest_test

import (
	"maps"
	"slices"
	"testing"

	"staddle/api"
	"staddle/edit"
	"staddle/manifest"
	"staddle/simfs"
	"staddle/wal"
)

const (
	topNum   = 1 << 40
	topSeq   = 1<<56 - 1
	topSize  = 1<<31 - 1
	topQuota = 1 << 20
)

// files are a file system's names, each with its bytes.
type files map[string]string

// key is a key that puts.
func key(user string, seq uint64) api.IKey { return api.IKey{User: user, Seq: seq, Kind: api.Put} }

// file is a file that has the users from from to to.
func file(level int, num uint64, from, to string) api.File {
	return api.File{Level: level, Num: num, Size: 10, Small: key(from, 2), Large: key(to, 1)}
}

// stand are files, each behind those of its level that are named ahead of it.
func stand(l ...api.File) api.Version {
	var v api.Version
	for _, f := range l {
		v.L[f.Level] = append(v.L[f.Level], f)
	}
	return v
}

// some are files that may be together, in all levels.
func some() api.Version {
	return stand(
		file(0, 30, "a", "z"), file(0, 20, "m", "p"), file(0, 10, "b", "q"),
		file(1, 3, "b", "d"), file(1, 25, "f", "h"), file(1, 1, "m", "m"),
		file(2, 4, "", "c"), file(2, 2, "c\x00", "k"),
		file(3, 40, "\xfe", "\xff\xff"))
}

// many are n files in each of some levels, whose numbers are none of others'.
func many(n int, levels ...int) api.Version {
	var v api.Version
	for _, level := range levels {
		for i := range n {
			num := uint64(1000*level + i + 1)
			if level == 0 {
				num = uint64(n - i)
			}
			user := string([]byte{byte(i >> 8), byte(i)})
			v.L[level] = append(v.L[level], file(level, num, user, user+"x"))
		}
	}
	return v
}

// greatest are a hundred files with as many bytes as an edit of so many can have.
func greatest() api.Version {
	var v api.Version
	for i := range 100 {
		user := string(append([]byte{byte(i)}, make([]byte, 63)...))
		f := api.File{Level: 3, Num: topNum - uint64(i), Size: topSize, Small: key(user, topSeq), Large: key(user, 0)}
		v.L[3] = append(v.L[3], f)
	}
	return v
}

// before is the state that is told ahead of what a test does.
func before() api.State {
	return api.State{Num: 3, V: stand(file(0, 9, "b", "c"), file(1, 7, "x", "y")), Log: 8, Next: 10, Last: 70}
}

// states may all be written; none has before's number, or one of the others'.
func states() map[string]api.State {
	return map[string]api.State{
		"nothing":                  {Num: 4},
		"numbers alone":            {Num: 5, Log: 1, Next: 2, Last: 3},
		"Log alone":                {Num: 6, Log: topNum},
		"Next alone":               {Num: 7, Next: topNum},
		"Last alone":               {Num: 8, Last: topSeq},
		"all at their greatest":    {Num: topNum, V: greatest(), Log: topNum, Next: topNum, Last: topSeq},
		"number 1":                 {Num: 1, V: some()},
		"number 999999":            {Num: 999999, V: some(), Next: 41},
		"number 1000000":           {Num: 1000000, V: some(), Log: 41, Last: 5},
		"files in all levels":      {Num: 9, V: some(), Log: 41, Next: 43, Last: 5},
		"99 files":                 {Num: 10, V: many(99, 1), Log: 1, Next: 2, Last: 3},
		"100 files":                {Num: 11, V: many(100, 0), Log: 1, Next: 2, Last: 3},
		"101 files":                {Num: 12, V: many(101, 2), Log: 1, Next: 2, Last: 3},
		"100 files in each level":  {Num: 13, V: many(100, 0, 1, 2, 3), Log: 1, Next: 2, Last: 3},
		"650 files, in few levels": {Num: 14, V: many(325, 0, 3), Log: 1, Next: 2, Last: 3},
	}
}

// same is whether two states are alike.
func same(s, x api.State) bool {
	return s.Num == x.Num && s.Log == x.Log && s.Next == x.Next && s.Last == x.Last &&
		slices.EqualFunc(s.V.L[:], x.V.L[:], slices.Equal[[]api.File])
}

// fresh is a file system without files.
func fresh(t *testing.T, quota int) *simfs.FS {
	t.Helper()
	f, err := simfs.New(quota)
	if f == nil || err != api.OK {
		t.Fatalf("New(%d): %v, %d", quota, f, err)
	}
	return f
}

// ok ends the test at a call that was to be done, and was not.
func ok(t *testing.T, errs ...api.Errno) {
	t.Helper()
	for i, err := range errs {
		if err != api.OK {
			t.Fatalf("the call at %d: %d", i, err)
		}
	}
}

// laid is a file system with these files; all lasts.
func laid(t *testing.T, want files) *simfs.FS {
	t.Helper()
	f := fresh(t, topQuota)
	for name, b := range want {
		ok(t, f.Create(name), f.Append(name, []byte(b)), f.Sync(name))
	}
	ok(t, f.SyncDir())
	return f
}

// begun is a file system in which before is told, and others' files are; all lasts.
func begun(t *testing.T) *simfs.FS {
	t.Helper()
	f := laid(t, files{"000008.log": "a log", "000007.tab": "a table", "x": "\x00", "MANIFEST-000002": "an old one", "current": ""})
	ok(t, manifest.Write(f, before()))
	return f
}

// look are all files.
func look(t *testing.T, f *simfs.FS) files {
	t.Helper()
	names, err := f.List()
	ok(t, err)
	out := files{}
	for _, name := range names {
		b, err := f.Read(name)
		ok(t, err)
		out[name] = string(b)
	}
	return out
}

// others are all files but those of some names.
func others(all files, names ...string) files {
	out := maps.Clone(all)
	for _, name := range names {
		delete(out, name)
	}
	return out
}

// records are the bytes of a manifest with records.
func records(l ...string) string {
	var out []byte
	for _, record := range l {
		more, _ := wal.Put(len(out), []byte(record))
		out = append(out, more...)
	}
	return string(out)
}

// encoded are edits, each as a record.
func encoded(l ...api.Edit) []string {
	var out []string
	for _, x := range l {
		b, _ := edit.Encode(x)
		out = append(out, string(b))
	}
	return out
}

// edits are the bytes of a manifest with edits.
func edits(l ...api.Edit) string { return records(encoded(l...)...) }

// counts is a file system whose manifest 5 counts, and has these bytes.
func counts(t *testing.T, b string) *simfs.FS {
	t.Helper()
	return laid(t, files{"CURRENT": "MANIFEST-000005\n", "MANIFEST-000005": b})
}

// tells tells a fault if Load's answer is not the state.
func tells(t *testing.T, what string, f *simfs.FS, want api.State) {
	t.Helper()
	if s, err := manifest.Load(f); err != api.OK || !same(s, want) {
		t.Errorf("%s: %d, %+v; want %+v", what, err, s, want)
	}
}

// refuses tells a fault if Load's answer is not the error, and nothing beside it.
func refuses(t *testing.T, what string, f *simfs.FS, want api.Errno) {
	t.Helper()
	if s, err := manifest.Load(f); err != want || !same(s, api.State{}) {
		t.Errorf("%s: %d, %+v; want %d", what, err, s, want)
	}
}

// wrong tells a fault if an error is not the one that was to be.
func wrong(t *testing.T, what string, got, want api.Errno) {
	t.Helper()
	if got != want {
		t.Errorf("%s: %d; want %d", what, got, want)
	}
}

// The chapter's examples.
func TestExamples(t *testing.T) {
	if a, b, c := manifest.Name(api.NLog, 7), manifest.Name(api.NManifest, 1234567), manifest.Name(api.NTable, 0); a != "000007.log" || b != "MANIFEST-1234567" || c != "" {
		t.Errorf("%q, %q, %q", a, b, c)
	}
	parses(t, "000007.tab", api.NTable, 7)
	parses(t, "7.tab", api.NNone, 0)
	parses(t, "CURRENT", api.NCurrent, 0)
	f := fresh(t, topQuota)
	refuses(t, "no files", f, api.ErrManifestNone)
	s := api.State{Num: 3, V: some(), Log: 1, Next: 41, Last: 9}
	ok(t, manifest.Write(f, s))
	tells(t, "state 3", f, s)
}

// The section "Types": the kinds' numbers are api's.
func TestKindNumbers(t *testing.T) {
	got := []int{api.NNone, api.NLog, api.NTable, api.NManifest, api.NCurrent, api.NTemp}
	if !slices.Equal(got, []int{0, 1, 2, 3, 4, 5}) {
		t.Errorf("%v", got)
	}
}

// The section "Errors": the numbers are api's.
func TestErrorNumbers(t *testing.T) {
	got := []api.Errno{api.ErrArg, api.ErrWalLong, api.ErrVersionForm, api.ErrManifestNone, api.ErrManifestForm}
	if !slices.Equal(got, []api.Errno{1, 90, 140, 150, 151}) {
		t.Errorf("%v", got)
	}
	if api.MaxNum != topNum || api.MaxSeq != topSeq || api.MaxFiles != 100 || api.MaxDels != 20000 || api.MaxRecord != 131072 {
		t.Error("a limit is another one than the document's")
	}
}

// R1: a nil file system is ErrArg, ahead of all else.
func TestNilFS(t *testing.T) {
	refuses(t, "Load", nil, api.ErrArg)
	for what, s := range map[string]api.State{"a state": before(), "none": {}, "faulty files": {V: stand(file(0, 1, "b", "a"))}, "Log": {Num: 1, Log: topNum + 1}} {
		wrong(t, what, manifest.Write(nil, s), api.ErrArg)
	}
	for what, x := range map[string]api.Edit{"an edit": {Last: 8}, "nothing": {}, "a faulty one": {Last: topSeq + 1}, "a long one": longEdit()} {
		wrong(t, what, manifest.Append(nil, 3, x), api.ErrArg)
		wrong(t, what, manifest.Append(nil, 0, x), api.ErrArg)
	}
}

// R1: a file system that simfs.New did not make has no room and no files.
func TestHandMadeFS(t *testing.T) {
	f := &simfs.FS{}
	refuses(t, "no files", f, api.ErrManifestNone)
	wrong(t, "Append", manifest.Append(f, 3, api.Edit{}), api.ErrFsNone)
	wrong(t, "Write", manifest.Write(f, before()), api.ErrFsFull)
	refuses(t, "behind it", f, api.ErrManifestNone)
}
