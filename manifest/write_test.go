package manifest_test

import (
	"maps"
	"strings"
	"testing"

	"staddle/api"
	"staddle/edit"
	"staddle/manifest"
	"staddle/simfs"
)

// mine are the names of files that a Write of a state may change.
func mine(s api.State) []string {
	return []string{"CURRENT", "CURRENT.tmp", manifest.Name(api.NManifest, s.Num)}
}

// P15.3: Load's answer is what was written, lastingly; all other files are as they were.
func TestWrite(t *testing.T) {
	for what, s := range states() {
		for ahead, f := range aheads(t) {
			was := look(t, f)
			wrong(t, what+" behind "+ahead, manifest.Write(f, s), api.OK)
			tells(t, what+" behind "+ahead, f, s)
			got := look(t, f)
			if !maps.Equal(others(got, mine(s)...), others(was, mine(s)...)) {
				t.Errorf("%s behind %s: another file is changed", what, ahead)
			}
			f.Crash(nil)
			tells(t, what+" behind "+ahead+", and a crash", f, s)
			if !maps.Equal(look(t, f), got) {
				t.Errorf("%s behind %s: not all of it lasts", what, ahead)
			}
		}
	}
}

// aheads are file systems whose files all last, as they may be ahead of a Write of a state.
func aheads(t *testing.T) map[string]*simfs.FS {
	t.Helper()
	temp := begun(t)
	ok(t, temp.Create("CURRENT.tmp"), temp.Append("CURRENT.tmp", []byte("MANIFEST-000002\n, and more")), temp.Sync("CURRENT.tmp"), temp.SyncDir())
	return map[string]*simfs.FS{
		"no files":                     fresh(t, topQuota),
		"a state":                      begun(t),
		"a state, and CURRENT.tmp":     temp,
		"CURRENT.tmp alone":            laid(t, files{"CURRENT.tmp": ""}),
		"a CURRENT that is none":       laid(t, files{"CURRENT": "x\n", "CURRENT.tmp": "x"}),
		"a CURRENT of no bytes":        laid(t, files{"CURRENT": "", "MANIFEST-000003": ""}),
		"a manifest that is not there": laid(t, files{"CURRENT": "MANIFEST-000003\n"}),
		"a corrupt manifest":           laid(t, files{"CURRENT": "MANIFEST-000003\n", "MANIFEST-000003": string(make([]byte, 100))}),
		"many files of such names":     laid(t, files{"000004.log": "", "000004.tab": "x", "MANIFEST-000002": edits(api.Edit{Last: 2}), "MANIFEST-4": "x", "MANIFEST-": "y", "CURRENT.tm": "z", "CURRENT.": "", "current": ""}),
	}
}

// P15.3: one state behind another: the numbers may fall, too.
func TestWriteAgain(t *testing.T) {
	f := begun(t)
	for _, num := range []uint64{7, 5, topNum, 1, 1000000, 999999} {
		s := api.State{Num: num, V: many(int(num%150), 1), Log: num, Last: num}
		wrong(t, "Write", manifest.Write(f, s), api.OK)
		tells(t, "Write", f, s)
		wrong(t, "Append", manifest.Append(f, num, api.Edit{Last: 9}), api.OK)
		s.Last = 9
		f.Crash(nil)
		tells(t, "Append", f, s)
	}
}

// P15.3: what Load told can be written again, under another number.
func TestWriteWhatWasLoaded(t *testing.T) {
	for what, s := range states() {
		f := begun(t)
		ok(t, manifest.Write(f, s))
		x, err := manifest.Load(f)
		ok(t, err)
		x.Num = 77
		wrong(t, what, manifest.Write(f, x), api.OK)
		s.Num = 77
		tells(t, what, f, s)
	}
}

// wrongFiles may not be together.
func wrongFiles() map[string]api.Version {
	return map[string]api.Version{
		"a file that may not be":     stand(file(1, 0, "a", "b")),
		"a key that may not be":      stand(file(1, 1, "a", strings.Repeat("x", 65))),
		"of another level":           {L: [api.Levels][]api.File{1: {file(2, 1, "a", "b")}}},
		"a number twice":             stand(file(1, 1, "a", "b"), file(2, 1, "a", "b")),
		"level 0's numbers rise":     stand(file(0, 1, "a", "b"), file(0, 2, "a", "b")),
		"over one another":           stand(file(1, 1, "a", "b"), file(1, 2, "b", "c")),
		"in the other order":         stand(file(1, 1, "c", "d"), file(1, 2, "a", "b")),
		"the last one of many":       stand(append(many(150, 2).L[2], file(2, 1, "\x00\x00", "\x00\x00"))...),
		"a level's last one of many": stand(append(many(100, 3).L[3], file(3, 3100, "\xff", "\xff"))...),
	}
}

// refusal is a state that is not written, and why.
type refusal struct {
	what string
	s    api.State
	want api.Errno
}

// refusals are such states; the first fault of the promise is told, whatever else is wrong.
func refusals() []refusal {
	var out []refusal
	for what, v := range wrongFiles() {
		out = append(out,
			refusal{what, api.State{Num: 4, V: v}, api.ErrVersionForm},
			refusal{what + ", and Log", api.State{Num: 4, V: v, Log: topNum + 1}, api.ErrVersionForm},
			refusal{what + ", and Last", api.State{Num: 4, V: v, Last: topSeq + 1}, api.ErrVersionForm},
			refusal{what + ", and Num", api.State{V: v}, api.ErrVersionForm},
			refusal{what + ", and a number that is there", api.State{Num: 3, V: v}, api.ErrVersionForm})
	}
	for _, n := range wrongNums()[1:] {
		out = append(out,
			refusal{"Log", api.State{Num: 4, V: some(), Log: n}, api.ErrEditFile},
			refusal{"Next", api.State{Num: 4, V: some(), Next: n}, api.ErrEditFile},
			refusal{"Log, and Last", api.State{Num: 4, V: some(), Log: n, Last: topSeq + 1}, api.ErrEditFile},
			refusal{"Next, and Last", api.State{Num: 3, V: some(), Next: n, Last: topSeq + 1}, api.ErrEditFile},
			refusal{"Num above", api.State{Num: n, V: some()}, api.ErrEditFile},
			refusal{"Num above, and Last", api.State{Num: n, V: some(), Last: topSeq + 1}, api.ErrKeySeq})
	}
	return append(out,
		refusal{"Last", api.State{Num: 4, V: some(), Last: topSeq + 1}, api.ErrKeySeq},
		refusal{"Last, and a number that is there", api.State{Num: 3, V: some(), Last: 1 << 63}, api.ErrKeySeq},
		refusal{"Num 0", api.State{V: some(), Last: 1}, api.ErrEditFile},
		refusal{"Num 0, and Last", api.State{V: some(), Last: topSeq + 1}, api.ErrKeySeq},
		refusal{"nothing at all", api.State{}, api.ErrEditFile})
}

// P15.3, R3: a state that may not be is refused ahead of any change.
func TestWriteRefuses(t *testing.T) {
	f := begun(t)
	was, ops := look(t, f), f.Ops()
	for _, c := range refusals() {
		f.Fail(0)
		wrong(t, c.what, manifest.Write(f, c.s), c.want)
		f.Fail(-1)
		f.Fuse(0)
		wrong(t, c.what+", off", manifest.Write(f, c.s), c.want)
		f.Fuse(-1)
	}
	if !maps.Equal(look(t, f), was) || f.Ops() != ops {
		t.Error("something is changed")
	}
	tells(t, "behind them", f, before())
}

// P15.3: ErrFsExists, if there is a manifest of that number, whatever it is: it and all else stay.
func TestWriteExists(t *testing.T) {
	for _, num := range []uint64{3, 2} {
		for what, s := range states() {
			f := begun(t)
			ok(t, f.Create("CURRENT.tmp"), f.Append("CURRENT.tmp", []byte("x")))
			was := look(t, f)
			s.Num = num
			wrong(t, what, manifest.Write(f, s), api.ErrFsExists)
			if !maps.Equal(look(t, f), was) {
				t.Errorf("%s: something is changed", what)
			}
			tells(t, what, f, before())
			f.Crash([]int{1, 1, 1, 1, 1, 1, 1, 1, 1})
			tells(t, what+", and a crash", f, before())
		}
	}
	for _, b := range []string{"", "x", edits(api.Edit{Last: 3})} {
		f := laid(t, files{"MANIFEST-000004": b})
		wrong(t, "without CURRENT", manifest.Write(f, api.State{Num: 4}), api.ErrFsExists)
		if got := look(t, f); !maps.Equal(got, files{"MANIFEST-000004": b}) {
			t.Errorf("%q", got)
		}
	}
	full := fresh(t, 0)
	ok(t, full.Create("MANIFEST-000004"))
	wrong(t, "without room", manifest.Write(full, api.State{Num: 4}), api.ErrFsExists)
	f := begun(t)
	f.Fuse(0)
	wrong(t, "off", manifest.Write(f, before()), api.ErrFsDown)
}

// P15.3: a file of such a number that is no manifest does not matter.
func TestWriteOtherNames(t *testing.T) {
	f := laid(t, files{"000004.log": "x", "000004.tab": "y", "MANIFEST-4": "z", "MANIFEST-0000004": ""})
	wrong(t, "Write", manifest.Write(f, api.State{Num: 4, Last: 5}), api.OK)
	tells(t, "Write", f, api.State{Num: 4, Last: 5})
}

// P15.3: ErrFsFull, where there is no room: Load's answer is what it was, or the state.
func TestWriteFull(t *testing.T) {
	for what, s := range states() {
		if s.Num == topNum || len(s.V.L[0]) > 50 {
			continue
		}
		done := false
		for quota := 0; quota < 8000 && !done; quota += 7 {
			f := fresh(t, quota)
			f.Create("CURRENT")
			f.Create("x")
			f.Append("x", []byte("abc"))
			was := look(t, f)
			err := manifest.Write(f, s)
			if done = err == api.OK; done {
				tells(t, what, f, s)
			} else {
				wrong(t, what, err, api.ErrFsFull)
				refuses(t, what, f, api.ErrManifestForm)
			}
			if !maps.Equal(others(look(t, f), mine(s)...), others(was, mine(s)...)) {
				t.Errorf("%s, quota %d: another file is changed", what, quota)
			}
		}
		if !done {
			t.Errorf("%s: never written", what)
		}
	}
}

// P15.3: each change of a Write fails, or the power goes off at it: its error is told, and Load's answer is what it was, or the state.
func TestWriteChangesFail(t *testing.T) {
	for what, s := range states() {
		for ahead := range aheads(t) {
			for fault, set := range faults() {
				what := what + " behind " + ahead + ", " + fault
				tillDone(t, what, func(n int) api.Errno {
					f := aheads(t)[ahead]
					was, wasErr := manifest.Load(f)
					names := look(t, f)
					set.arm(f, n)
					err := manifest.Write(f, s)
					if err == api.OK {
						return err
					}
					wrong(t, what, err, set.want)
					f.Fuse(-1)
					if x, err := manifest.Load(f); (err != wasErr || !same(x, was)) && (err != api.OK || !same(x, s)) {
						t.Errorf("%s behind %d: %d, %+v", what, n, err, x)
					}
					if !maps.Equal(others(look(t, f), mine(s)...), others(names, mine(s)...)) {
						t.Errorf("%s behind %d: another file is changed", what, n)
					}
					return err
				})
			}
		}
	}
}

// P15.3: behind any error a state can be written, under a number that no manifest has.
func TestWriteBehindErrors(t *testing.T) {
	for fault, set := range faults() {
		for n := range 14 {
			for what, s := range states() {
				f := begun(t)
				set.arm(f, n)
				manifest.Write(f, s)
				f.Fuse(-1)
				f.Fail(-1)
				s.Num = 88
				wrong(t, what+", "+fault, manifest.Write(f, s), api.OK)
				tells(t, what+", "+fault, f, s)
				f.Crash(nil)
				tells(t, what+", "+fault+", and a crash", f, s)
			}
		}
	}
}

// P15.3: what may be in one edit and what not: numbers at their limits, and files of all that edit.Check takes.
func TestWriteAtLimits(t *testing.T) {
	f := fresh(t, topQuota)
	for i, s := range []api.State{
		{Log: topNum, Next: topNum, Last: topSeq, V: greatest()},
		{Log: 1, Next: 1, Last: 1, V: stand(api.File{Num: 1, Size: 1})},
		{V: stand(api.File{Level: 3, Num: topNum, Size: topSize, Small: key("", topSeq), Large: key(strings.Repeat("\xff", 64), 0)})},
		{V: stand(api.File{Level: 2, Num: 1, Size: 1, Small: key("a", 5), Large: key("a", 5)}, api.File{Level: 2, Num: 2, Size: 1, Small: api.IKey{User: "a\x00"}, Large: api.IKey{User: "a\x00"}})},
	} {
		s.Num = uint64(i + 1)
		wrong(t, "Check", edit.Check(api.Edit{Log: s.Log, Next: s.Next, Last: s.Last}), api.OK)
		wrong(t, "Write", manifest.Write(f, s), api.OK)
		tells(t, "Write", f, s)
	}
}
