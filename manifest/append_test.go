package manifest_test

import (
	"maps"
	"testing"

	"staddle/api"
	"staddle/edit"
	"staddle/manifest"
	"staddle/simfs"
	"staddle/wal"
)

// manyGone are n files that are gone, with numbers of as many bytes as may be.
func manyGone(n int) []api.Gone {
	out := make([]api.Gone, n)
	for i := range out {
		out[i] = gone(3, topNum-uint64(i))
	}
	return out
}

// longEdit may be an edit, but its bytes are no record.
func longEdit() api.Edit { return dels(manyGone(20000)...) }

// sized is an edit of just so many bytes, which are some 120000 to 140000.
func sized(t *testing.T, size int) api.Edit {
	t.Helper()
	// Log, Next, how many are gone and are added have six bytes; each file that is gone has seven, and Last one to seven.
	left := size - 7
	x := dels(manyGone(left / 7)...)
	if left%7 > 0 {
		x.Last = 1 << (7 * (left % 7))
	}
	if b, err := edit.Encode(x); err != api.OK || len(b) != size {
		t.Fatalf("no edit of %d bytes, but of %d: %d", size, len(b), err)
	}
	return x
}

// someEdits may all be appended; not all can be applied.
func someEdits(t *testing.T) map[string]api.Edit {
	return map[string]api.Edit{
		"nothing":                   {},
		"Last":                      {Last: 71},
		"numbers at their greatest": {Log: topNum, Next: topNum, Last: topSeq},
		"a file":                    adds(file(2, 11, "a", "b")),
		"a file that is gone":       dels(gone(0, 9)),
		"all of it":                 {Log: 9, Next: 12, Last: 80, Dels: []api.Gone{gone(1, 7), gone(0, 9)}, Adds: []api.File{file(1, 7, "a", "z"), file(0, 11, "", "")}},
		"a hundred files":           {Adds: greatest().L[3]},
		"many that are gone":        dels(manyGone(18000)...),
		"as long as may be":         sized(t, api.MaxRecord),
		"what can't be applied":     dels(gone(3, 999)),
		"a number that is there":    adds(file(2, 7, "a", "b")),
	}
}

// behind are a log's bytes with an edit at their end.
func behind(b string, x api.Edit) string {
	record, _ := edit.Encode(x)
	more, _ := wal.Put(len(b), record)
	return b + string(more)
}

// P15.4: the bytes are those that were there, and the edit's at their end; no other file or name is changed.
func TestAppend(t *testing.T) {
	for what, x := range someEdits(t) {
		f := begun(t)
		want := look(t, f)
		for range 3 {
			want["MANIFEST-000003"] = behind(want["MANIFEST-000003"], x)
			wrong(t, what, manifest.Append(f, 3, x), api.OK)
			if got := look(t, f); !maps.Equal(got, want) {
				t.Errorf("%s: the files are not as they were, with it", what)
			}
			f.Crash(nil)
			if got := look(t, f); !maps.Equal(got, want) {
				t.Errorf("%s: not all of it lasts", what)
			}
		}
	}
}

// P15.4, P15.2: an edit that can be applied is told by Load; one that can't be makes the manifest none.
func TestAppendIsTold(t *testing.T) {
	f, want := begun(t), before()
	for _, x := range []api.Edit{
		{},
		{Last: 71},
		adds(file(2, 11, "a", "b")),
		{Log: 12, Next: 13, Dels: []api.Gone{gone(0, 9)}, Adds: []api.File{file(1, 9, "b", "c")}},
		dels(gone(1, 7), gone(1, 9)),
		{Next: 1, Adds: greatest().L[3]},
	} {
		wrong(t, "Append", manifest.Append(f, 3, x), api.OK)
		b, _ := edit.Encode(x)
		want = applied(want, string(b))
		tells(t, "Append", f, want)
		f.Crash(nil)
		tells(t, "and a crash", f, want)
	}
	wrong(t, "what can't be applied", manifest.Append(f, 3, dels(gone(1, 7))), api.OK)
	refuses(t, "what can't be applied", f, api.ErrManifestForm)
}

// P15.4: a manifest need not be the one that counts, nor have records, nor one that may be.
func TestAppendToAnyManifest(t *testing.T) {
	for _, b := range []string{"", "x", "any bytes", string(make([]byte, 120)), string(make([]byte, 121)), string(make([]byte, 122)), string(make([]byte, 127)), string(make([]byte, 128)), edits(api.Edit{Last: 5}), edits(adds(some().L[1]...))[:40]} {
		for num, name := range map[uint64]string{1: "MANIFEST-000001", 4: "MANIFEST-000004", 1000000: "MANIFEST-1000000", topNum: "MANIFEST-1099511627776"} {
			f := laid(t, files{name: b, "CURRENT": "MANIFEST-000003\n"})
			x := api.Edit{Last: 6, Adds: []api.File{file(0, 2, "a", "b")}}
			wrong(t, name, manifest.Append(f, num, x), api.OK)
			f.Crash(nil)
			if got := look(t, f); got[name] != behind(b, x) || got["CURRENT"] != "MANIFEST-000003\n" || len(got) != 2 {
				t.Errorf("%s: %q", name, got)
			}
		}
	}
}

// P15.4: what was there without lasting, bytes and name, lasts behind an Append.
func TestAppendLasts(t *testing.T) {
	f := laid(t, files{"CURRENT": "MANIFEST-000005\n"})
	b := edits(api.Edit{Last: 5})
	ok(t, f.Create("MANIFEST-000005"), f.Append("MANIFEST-000005", []byte(b)))
	ok(t, manifest.Append(f, 5, api.Edit{Log: 6}))
	for _, picks := range [][]int{nil, {0, 0, 0}, {1, 1, 1}, {5, 100, 100}} {
		g := f.Copy()
		g.Crash(picks)
		tells(t, "a crash", g, api.State{Num: 5, Last: 5, Log: 6})
	}
}

// P15.4: a manifest that is not there.
func TestAppendToNone(t *testing.T) {
	for _, num := range append(wrongNums(), 4, 2000000, topNum) {
		f := begun(t)
		was, ops := look(t, f), f.Ops()
		for what, x := range map[string]api.Edit{"an edit": {Last: 71}, "a long one": longEdit()} {
			wrong(t, what, manifest.Append(f, num, x), api.ErrFsNone)
		}
		if !maps.Equal(look(t, f), was) || f.Ops() != ops {
			t.Errorf("%d: something is changed", num)
		}
	}
	f := laid(t, files{"000003.log": "x", "000003.tab": "x", "CURRENT": "MANIFEST-000003\n", "CURRENT.tmp": "x", "MANIFEST-3": "x", "MANIFEST-": "x"})
	wrong(t, "others of that number", manifest.Append(f, 3, api.Edit{}), api.ErrFsNone)
	wrong(t, "of number 0", manifest.Append(f, 0, api.Edit{}), api.ErrFsNone)
}

// wrongEdits are edits that edit.Check refuses, and its errors.
func wrongEdits() map[string]api.Edit {
	return map[string]api.Edit{
		"too many gone":    dels(manyGone(20001)...),
		"too many added":   adds(many(101, 1).L[1]...),
		"Log above":        {Log: topNum + 1},
		"Next above":       {Next: topNum + 1},
		"Last above":       {Last: topSeq + 1},
		"level 4":          dels(gone(4, 1)),
		"level below 0":    adds(file(-1, 1, "a", "b")),
		"number 0":         dels(gone(1, 0)),
		"Size 0":           adds(api.File{Level: 1, Num: 1}),
		"Large is ahead":   adds(file(1, 1, "b", "a")),
		"a key's Kind":     adds(api.File{Level: 1, Num: 1, Size: 1, Small: api.IKey{Kind: 2}}),
		"a key too long":   adds(file(1, 1, "a", string(make([]byte, 65)))),
		"a key's Seq":      adds(api.File{Level: 1, Num: 1, Size: 1, Small: key("a", topSeq+1)}),
		"long, and beside": {Last: topSeq + 1, Dels: manyGone(20000)},
	}
}

// P15.4: an edit that edit.Check refuses, ahead of what the files would say.
func TestAppendWrongEdit(t *testing.T) {
	for what, x := range wrongEdits() {
		want := edit.Check(x)
		for _, num := range []uint64{3, 4, 0} {
			f := begun(t)
			was, ops := look(t, f), f.Ops()
			wrong(t, what, manifest.Append(f, num, x), want)
			if !maps.Equal(look(t, f), was) || f.Ops() != ops {
				t.Errorf("%s: something is changed", what)
			}
			f.Fuse(0)
			wrong(t, what+", off", manifest.Append(f, num, x), want)
		}
	}
}

// P15.4: an edit whose bytes are more than a record's, behind the error of reading, ahead of those of changes.
func TestAppendLong(t *testing.T) {
	for what, x := range map[string]api.Edit{"20000 gone": longEdit(), "one byte more": sized(t, api.MaxRecord+1)} {
		f := begun(t)
		was, ops := look(t, f), f.Ops()
		f.Fail(0)
		wrong(t, what, manifest.Append(f, 3, x), api.ErrWalLong)
		if !maps.Equal(look(t, f), was) || f.Ops() != ops {
			t.Errorf("%s: something is changed", what)
		}
		wrong(t, what+", of none", manifest.Append(f, 4, x), api.ErrFsNone)
		f.Fuse(0)
		wrong(t, what+", off", manifest.Append(f, 3, x), api.ErrFsDown)
		wrong(t, what+", off, of none", manifest.Append(f, 4, x), api.ErrFsDown)
	}
}

// P15.4: simfs' errors of changes, behind which the bytes are as they were, or with the edit's.
func TestAppendFull(t *testing.T) {
	x := api.Edit{Last: 71}
	b := edits(api.Edit{Last: 70})
	full := len(behind(b, x))
	for quota := len(b); quota <= full+1; quota++ {
		f := fresh(t, quota)
		ok(t, f.Create("MANIFEST-000003"), f.Append("MANIFEST-000003", []byte(b)))
		want, bytes := api.OK, behind(b, x)
		if quota < full {
			want, bytes = api.ErrFsFull, b
		}
		wrong(t, "a quota", manifest.Append(f, 3, x), want)
		if got := look(t, f); !maps.Equal(got, files{"MANIFEST-000003": bytes}) {
			t.Errorf("quota %d: %q", quota, got)
		}
	}
}

// P15.4: behind a torn end the edit's bytes are laid as behind any others.
func TestAppendBehindTornEnd(t *testing.T) {
	b := edits(api.Edit{Last: 5}, adds(some().L[1]...))
	for n := range len(b) {
		f := counts(t, b[:n])
		wrong(t, "torn", manifest.Append(f, 5, api.Edit{Log: 6}), api.OK)
		f.Crash(nil)
		if got := look(t, f)["MANIFEST-000005"]; got != behind(b[:n], api.Edit{Log: 6}) {
			t.Errorf("cut at %d: %q", n, got)
		}
		want, wantErr := loadsPlainly(t, f)
		if s, err := manifest.Load(f); err != wantErr || !same(s, want) {
			t.Errorf("cut at %d: %d, %+v", n, err, s)
		}
	}
}

// P15.4: each change of an Append fails, or the power goes off at it: its error is told, and the bytes are as they were, or with the edit's.
func TestAppendChangesFail(t *testing.T) {
	for what, x := range someEdits(t) {
		for fault, set := range faults() {
			what := what + ", " + fault
			met := tillDone(t, what, func(n int) api.Errno {
				f := begun(t)
				was := look(t, f)
				set.arm(f, n)
				err := manifest.Append(f, 3, x)
				if err == api.OK {
					return err
				}
				// With the power off ahead of all the error is that of reading; it is the same one.
				wrong(t, what, err, set.want)
				f.Fuse(-1)
				got := look(t, f)
				if b := got["MANIFEST-000003"]; b != was["MANIFEST-000003"] && b != behind(was["MANIFEST-000003"], x) {
					t.Errorf("%s behind %d: other bytes", what, n)
				}
				if !maps.Equal(others(got, "MANIFEST-000003"), others(was, "MANIFEST-000003")) {
					t.Errorf("%s behind %d: another file is changed", what, n)
				}
				return err
			})
			if met < 2 {
				t.Errorf("%s: laid and made to last by %d changes", what, met)
			}
		}
	}
}

// tillDone does a thing, each time with a fault behind one change more, till that is not met any more: behind so many.
func tillDone(t *testing.T, what string, do func(n int) api.Errno) int {
	t.Helper()
	for n := range 50 {
		if do(n) == api.OK {
			return n
		}
	}
	t.Errorf("%s: never done", what)
	return 0
}

// fault is a way in which a change fails.
type fault struct {
	arm  func(f *simfs.FS, n int)
	want api.Errno
}

// faults are all of them.
func faults() map[string]fault {
	return map[string]fault{
		"a failure":  {(*simfs.FS).Fail, api.ErrFsIo},
		"power goes": {(*simfs.FS).Fuse, api.ErrFsDown},
	}
}
