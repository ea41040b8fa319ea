package manifest_test

import (
	"fmt"
	"math/rand"
	"strings"
	"testing"

	"staddle/api"
	"staddle/edit"
	"staddle/manifest"
	"staddle/simfs"
	"staddle/version"
	"staddle/wal"
)

// applied is a state behind a record that is an edit and can be applied; else none, of number 0.
func applied(s api.State, record string) api.State {
	x, err := edit.Decode([]byte(record))
	if err != api.OK {
		return api.State{}
	}
	if s.V, err = version.Apply(s.V, x); err != api.OK {
		return api.State{}
	}
	if x.Log > 0 {
		s.Log = x.Log
	}
	if x.Next > 0 {
		s.Next = x.Next
	}
	if x.Last > 0 {
		s.Last = x.Last
	}
	return s
}

// loadsPlainly is Load as the document tells it, with the power on.
func loadsPlainly(t *testing.T, f *simfs.FS) (api.State, api.Errno) {
	t.Helper()
	all := look(t, f)
	line, there := all["CURRENT"]
	if !there {
		return api.State{}, api.ErrManifestNone
	}
	kind, num := parsesPlainly(strings.TrimSuffix(line, "\n"))
	b, there := all[strings.TrimSuffix(line, "\n")]
	l, _, end := wal.Read([]byte(b))
	if !strings.HasSuffix(line, "\n") || kind != api.NManifest || !there || end == api.LCorrupt || len(l) == 0 {
		return api.State{}, api.ErrManifestForm
	}
	s := api.State{Num: num}
	for _, record := range l {
		if s = applied(s, string(record)); s.Num == 0 {
			return api.State{}, api.ErrManifestForm
		}
	}
	return s, api.OK
}

// chance makes things by chance, the same in each run.
type chance struct{ *rand.Rand }

// one is one of several.
func one[T any](c chance, l ...T) T { return l[c.Intn(len(l))] }

// edit is an edit that may be; few of its files are far from others.
func (c chance) edit() api.Edit {
	var x api.Edit
	for _, n := range []*uint64{&x.Log, &x.Next, &x.Last} {
		if c.Intn(2) == 0 {
			*n = uint64(c.Intn(9))
		}
	}
	for range c.Intn(3) {
		x.Dels = append(x.Dels, gone(c.Intn(api.Levels), uint64(1+c.Intn(8))))
	}
	for range c.Intn(4) {
		from, to := one(c, "a", "b", "c", "d"), one(c, "", "a", "z")
		x.Adds = append(x.Adds, file(c.Intn(api.Levels), uint64(1+c.Intn(30)), from, from+to))
	}
	return x
}

// fitting is an edit that can be applied to files: another try is made of each that can't be.
func (c chance) fitting(v api.Version) api.Edit {
	for range 20 {
		x := c.edit()
		if _, err := version.Apply(v, x); err == api.OK {
			return x
		}
	}
	return api.Edit{}
}

// record is an edit's bytes, now and then spoilt.
func (c chance) record(x api.Edit) string {
	b, _ := edit.Encode(x)
	if c.Intn(30) == 0 {
		b[c.Intn(len(b))] ^= byte(1 + c.Intn(255))
	}
	return string(b)
}

// manifest are the bytes of one that may be, or nearly.
func (c chance) manifest() string {
	var l []string
	var v api.Version
	for range c.Intn(12) {
		x := c.fitting(v)
		if c.Intn(30) == 0 {
			x = c.edit()
		}
		v, _ = version.Apply(v, x)
		l = append(l, c.record(x))
	}
	b := []byte(records(l...))
	if len(b) > 0 && c.Intn(4) == 0 {
		b = b[:c.Intn(len(b))]
	}
	if len(b) > 0 && c.Intn(6) == 0 {
		b[c.Intn(len(b))] ^= byte(1 << c.Intn(8))
	}
	return string(b)
}

// P15.2: manifests by chance are told as the document says.
func TestLoadByChance(t *testing.T) {
	c := chance{rand.New(rand.NewSource(151))}
	seen := map[api.Errno]int{}
	for range 4000 {
		all := files{}
		for _, name := range []string{"MANIFEST-000001", "MANIFEST-000002", "MANIFEST-1000000"} {
			if c.Intn(12) > 0 {
				all[name] = c.manifest()
			}
		}
		if c.Intn(20) > 0 {
			all["CURRENT"] = one(c, "MANIFEST-000001\n", "MANIFEST-000002\n", "MANIFEST-000002\n", "MANIFEST-1000000\n", "MANIFEST-1000000\n", one(c, "MANIFEST-000001", "MANIFEST-1\n", "\n", "CURRENT\n"))
		}
		f := laid(t, all)
		want, wantErr := loadsPlainly(t, f)
		s, err := manifest.Load(f)
		if err != wantErr || !same(s, want) {
			t.Fatalf("%q: %d, %+v; want %d, %+v", all, err, s, wantErr, want)
		}
		if version.Check(s.V) != api.OK {
			t.Fatalf("%q: files that may not be together", all)
		}
		seen[err]++
	}
	if seen[api.OK] < 1000 || seen[api.ErrManifestForm] < 500 || seen[api.ErrManifestNone] < 100 {
		t.Errorf("too few of a kind: %v", seen)
	}
}

// world is a file system, and what Load may answer of it: the state that was told last, and others behind a crash.
type world struct {
	chance
	t     *testing.T
	f     *simfs.FS
	next  uint64
	now   told
	crash []told
	stuck bool // behind an error of Append a new manifest is to be written
}

// told is an answer of Load.
type told struct {
	s   api.State
	err api.Errno
}

// String is what can be read at a glance.
func (x told) String() string {
	return fmt.Sprint(x.err, ", ", x.s.Num, ", ", x.s.Log, " ", x.s.Next, " ", x.s.Last, ", ", version.Nums(x.s.V))
}

func (w *world) load() told {
	s, err := manifest.Load(w.f)
	return told{s, err}
}

// among is whether an answer is one of several.
func (x told) among(l []told) bool {
	for _, y := range l {
		if x.err == y.err && same(x.s, y.s) {
			return true
		}
	}
	return false
}

// comes is a call's end: with OK Load's answer is x, lastingly; with an error it is what it was ahead, or x.
func (w *world) comes(what string, err api.Errno, x told) {
	w.t.Helper()
	w.f.Fail(-1)
	if err == api.OK {
		w.now, w.crash = x, []told{x}
	} else {
		w.crash = append(w.crash, x)
	}
	// Nothing is told with the power off; a crash comes next.
	if _, off := w.f.List(); off != api.OK {
		return
	}
	got := w.load()
	if !got.among([]told{w.now, x}) {
		w.t.Fatalf("%s, %d: %v; it was %v, and %v came", what, err, got, w.now, x)
	}
	w.now = got
}

func (w *world) write() {
	w.next += uint64(1 + w.Intn(3))
	s := w.now.s
	s.Num, s.Next = w.next, uint64(w.Intn(100))
	s.V, _ = version.Apply(s.V, w.fitting(s.V))
	if w.Intn(4) == 0 {
		s.V = many(w.Intn(150), 0, 2)
	}
	err := manifest.Write(w.f, s)
	w.comes("Write", err, told{s: s})
	if err == api.OK {
		w.stuck = false
	}
}

func (w *world) append() {
	if w.now.err != api.OK || w.stuck {
		return
	}
	x := w.fitting(w.now.s.V)
	b, _ := edit.Encode(x)
	err := manifest.Append(w.f, w.now.s.Num, x)
	w.comes("Append", err, told{s: applied(w.now.s, string(b))})
	w.stuck = err != api.OK
}

// cut is a crash, and what Load answers behind it.
func (w *world) cut() {
	picks := make([]int, 8)
	for i := range picks {
		picks[i] = w.Intn(400) - 100
	}
	w.f.Crash(picks)
	got := w.load()
	if !got.among(w.crash) {
		w.t.Fatalf("a crash: %v; it was %v, there were %v", got, w.now, w.crash)
	}
	w.now, w.crash = got, []told{got}
	// A torn end may have been left.
	w.stuck = true
}

// tidy takes away all but what counts, as its user would, so that there is room.
func (w *world) tidy() {
	w.f.Fuse(-1)
	w.f.Fail(-1)
	names, err := w.f.List()
	ok(w.t, err)
	for _, name := range names {
		if kind, num := manifest.Parse(name); kind == api.NManifest && num != w.now.s.Num {
			ok(w.t, w.f.Remove(name))
		}
	}
	ok(w.t, w.f.SyncDir())
	w.crash = []told{w.now}
}

// P15.3 to P15.5: states are written, edits are appended, changes fail, the power goes off: Load always answers the state ahead of what was cut, or the one behind it.
func TestWorldByChance(t *testing.T) {
	for seed := range 150 {
		c := chance{rand.New(rand.NewSource(int64(seed)))}
		none := told{err: api.ErrManifestNone}
		w := &world{chance: c, t: t, f: fresh(t, one(c, 300, 10000, topQuota)), now: none, crash: []told{none}}
		for range 60 {
			if _, off := w.f.List(); off != api.OK || w.Intn(12) == 0 {
				w.cut()
			}
			switch w.Intn(6) {
			case 0:
				w.f.Fuse(w.Intn(14))
			case 1:
				w.f.Fail(w.Intn(14))
			}
			if w.Intn(3) == 0 || w.stuck {
				w.write()
			} else {
				w.append()
			}
			if len(w.crash) == 1 && w.Intn(4) == 0 {
				w.tidy()
			}
		}
	}
}
