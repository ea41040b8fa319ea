package manifest_test

import (
	"iter"
	"maps"
	"testing"

	"staddle/api"
	"staddle/manifest"
	"staddle/simfs"
)

// crashes goes through what a crash may leave of a file system: so many changes of names, and of each file's bytes that do not last so many: up to some number, in some steps.
func crashes(f *simfs.FS, most, step int) iter.Seq[*simfs.FS] {
	return func(yield func(*simfs.FS) bool) {
		for stay := range 8 {
			for n := 0; n < most+step; n += step {
				g := f.Copy()
				picks := []int{stay}
				for range 12 {
					picks = append(picks, min(n, most))
				}
				g.Crash(picks)
				if !yield(g) {
					return
				}
			}
		}
	}
}

// longest is how many bytes a file has at most; the power is on here alone.
func longest(f *simfs.FS) int {
	f = f.Copy()
	f.Fuse(-1)
	most := 0
	names, _ := f.List()
	for _, name := range names {
		b, _ := f.Read(name)
		most = max(most, len(b))
	}
	return most
}

// crashesOfAll is crashes of as many bytes as there are, in steps that are few where there are many.
func crashesOfAll(f *simfs.FS) iter.Seq[*simfs.FS] {
	most := longest(f)
	return crashes(f, most, 1+most*most/20000)
}

// P15.3, P15.5: the power goes off at each change of a Write, and whatever stays of what was not made to last, Load's answer is what it was, or the state; all else is as it was.
func TestPowerGoesInWrite(t *testing.T) {
	for what, s := range states() {
		for ahead := range aheads(t) {
			what := what + " behind " + ahead
			tillDone(t, what, func(n int) api.Errno {
				f := aheads(t)[ahead]
				was, wasErr := manifest.Load(f)
				names := others(look(t, f), mine(s)...)
				f.Fuse(n)
				err := manifest.Write(f, s)
				for g := range crashesOfAll(f) {
					x, gotErr := manifest.Load(g)
					old := err != api.OK && gotErr == wasErr && same(x, was)
					if !old && (gotErr != api.OK || !same(x, s)) {
						t.Fatalf("%s, off behind %d: %d, %+v", what, n, gotErr, x)
					}
					if !maps.Equal(others(look(t, g), mine(s)...), names) {
						t.Fatalf("%s, off behind %d: another file is changed", what, n)
					}
				}
				return err
			})
		}
	}
}

// P15.3, P15.5: a manifest that counts and is not there comes whole or not at all, when it is written at last: a crash may not leave some of its records.
func TestPowerGoesInAwaitedManifest(t *testing.T) {
	for what, s := range states() {
		tillDone(t, what, func(n int) api.Errno {
			f := laid(t, files{"CURRENT": manifest.Name(api.NManifest, s.Num) + "\n", "x": "y"})
			f.Fuse(n)
			err := manifest.Write(f, s)
			for g := range crashesOfAll(f) {
				x, gotErr := manifest.Load(g)
				old := err != api.OK && gotErr == api.ErrManifestForm
				if !old && (gotErr != api.OK || !same(x, s)) {
					t.Fatalf("%s, off behind %d: %d, %+v", what, n, gotErr, x)
				}
			}
			return err
		})
	}
}

// P15.3, P15.5: a change of a Write fails, and then the power goes off.
func TestPowerGoesBehindAnError(t *testing.T) {
	s := states()["101 files"]
	tillDone(t, "Write", func(n int) api.Errno {
		f := begun(t)
		f.Fail(n)
		err := manifest.Write(f, s)
		for g := range crashesOfAll(f) {
			x, gotErr := manifest.Load(g)
			if gotErr != api.OK || !same(x, s) && (err == api.OK || !same(x, before())) {
				t.Fatalf("a failure behind %d: %d, %+v", n, gotErr, x)
			}
		}
		return err
	})
}

// P15.4, P15.5: the power goes off at each change of an Append, and whatever stays of what was not made to last, Load's answer is the state ahead of it, or the one behind it.
func TestPowerGoesInAppend(t *testing.T) {
	old := before()
	for what, x := range map[string]api.Edit{
		"numbers":          {Log: 9, Last: 80},
		"a file":           adds(file(2, 11, "a", "b")),
		"files gone, too":  {Next: 12, Dels: []api.Gone{gone(1, 7), gone(0, 9)}, Adds: []api.File{file(1, 9, "a", "z"), file(0, 11, "", "")}},
		"a hundred files":  {Last: 71, Adds: many(100, 2).L[2]},
		"the greatest":     {Last: 71, Adds: greatest().L[3]},
		"of no difference": {},
	} {
		want := applied(old, encoded(x)[0])
		tillDone(t, what, func(n int) api.Errno {
			f := begun(t)
			was := look(t, f)
			f.Fuse(n)
			err := manifest.Append(f, 3, x)
			for g := range crashesOfAll(f) {
				s, gotErr := manifest.Load(g)
				if gotErr != api.OK || !same(s, want) && (err == api.OK || !same(s, old)) {
					t.Fatalf("%s, off behind %d: %d, %+v", what, n, gotErr, s)
				}
				if !maps.Equal(others(look(t, g), "MANIFEST-000003"), others(was, "MANIFEST-000003")) {
					t.Fatalf("%s, off behind %d: another file is changed", what, n)
				}
			}
			return err
		})
	}
}

// P15.4: a manifest whose name does not last yet, since the last change of its Write failed, lasts behind an Append to it that is OK.
func TestAppendBehindAnUnsureWrite(t *testing.T) {
	s := states()["files in all levels"]
	met := 0
	tillDone(t, "Write", func(n int) api.Errno {
		f := begun(t)
		f.Fail(n)
		err := manifest.Write(f, s)
		if x, _ := manifest.Load(f); err == api.OK || !same(x, s) {
			return err
		}
		met++
		ok(t, manifest.Append(f, s.Num, api.Edit{Last: 99}))
		for g := range crashes(f, 20, 4) {
			want := s
			want.Last = 99
			tells(t, "a crash", g, want)
		}
		return err
	})
	if met == 0 {
		t.Error("no Write failed behind its last change of names")
	}
}

// P15.5: several Appends, each cut by a crash in a copy of the file system, the others done.
func TestPowerGoesInLaterAppends(t *testing.T) {
	f, was := begun(t), before()
	for i := range 40 {
		x := api.Edit{Last: uint64(100 + i), Adds: []api.File{file(0, uint64(100+i), "a", "b")}}
		want := applied(was, encoded(x)[0])
		tillDone(t, "Append", func(n int) api.Errno {
			g := f.Copy()
			g.Fuse(n)
			err := manifest.Append(g, 3, x)
			for h := range crashes(g, 60, 4) {
				if s, err := manifest.Load(h); err != api.OK || !same(s, was) && !same(s, want) {
					t.Fatalf("the one at %d, off behind %d: %d, %+v", i, n, err, s)
				}
			}
			return err
		})
		ok(t, manifest.Append(f, 3, x))
		was = want
		tells(t, "done", f, was)
	}
}
