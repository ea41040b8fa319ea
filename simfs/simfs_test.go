package simfs_test

import (
	"math"
	"slices"
	"strings"
	"testing"

	"staddle/api"
	"staddle/simfs"
)

// files are a file system's names, each with its bytes, ahead of a crash or behind it.
type files map[string]string

func text(n int) string { return strings.Repeat("x", n) }

func fresh(t *testing.T, quota int) *simfs.FS {
	t.Helper()
	f, err := simfs.New(quota)
	if f == nil || err != api.OK {
		t.Fatalf("New(%d): %v, %d", quota, f, err)
	}
	return f
}

// ok ends the test at a change that was to be done, and was not.
func ok(t *testing.T, errs ...api.Errno) {
	t.Helper()
	for i, err := range errs {
		if err != api.OK {
			t.Fatalf("the call at %d: %d", i, err)
		}
	}
}

// wrong tells a fault if an error is not the one that was to be.
func wrong(t *testing.T, name string, got, want api.Errno) {
	t.Helper()
	if got != want {
		t.Errorf("%s: %d, not %d", name, got, want)
	}
}

// holds tells a fault if there are other files, or others' bytes, than these.
func holds(t *testing.T, f *simfs.FS, want files) {
	t.Helper()
	list, err := f.List()
	if len(list) != len(want) || !slices.IsSorted(list) || err != api.OK {
		t.Errorf("List: %q, %d, not %q", list, err, want)
	}
	for name, bytes := range want {
		if b, err := f.Read(name); string(b) != bytes || err != api.OK {
			t.Errorf("Read(%q): %q, %d, not %q", name, b, err, bytes)
		}
		if !slices.Contains(list, name) {
			t.Errorf("%q is not in %q", name, list)
		}
	}
}

// laid is a file system with these files; all lasts.
func laid(t *testing.T, quota int, want files) *simfs.FS {
	t.Helper()
	f := fresh(t, quota)
	for name, bytes := range want {
		ok(t, f.Create(name), f.Append(name, []byte(bytes)), f.Sync(name))
	}
	ok(t, f.SyncDir())
	return f
}

// The section "Errors": the numbers are api's.
func TestErrorNumbers(t *testing.T) {
	if api.ErrArg != 1 || api.ErrFsName != 40 || api.ErrFsExists != 41 || api.ErrFsNone != 42 || api.ErrFsFull != 43 || api.ErrFsDown != 44 || api.ErrFsIo != 45 {
		t.Error("an error has another number than the document's")
	}
	if api.MaxQuota != 1<<20 || api.MaxName != 32 {
		t.Error("a limit is another one than the document's")
	}
}

// P4.1: quotas at both ends, and beyond them.
func TestNew(t *testing.T) {
	for _, quota := range []int{0, 1, 100, 1<<20 - 1, 1 << 20} {
		f := fresh(t, quota)
		holds(t, f, nil)
		if f.Ops() != 0 {
			t.Errorf("Ops: %d", f.Ops())
		}
		ok(t, f.Create("a"), f.Append("a", make([]byte, quota)), f.Append("a", nil))
		wrong(t, "one byte more", f.Append("a", []byte{1}), api.ErrFsFull)
	}
	for _, quota := range []int{-1, 1<<20 + 1, 1 << 21, math.MinInt, math.MaxInt} {
		if f, err := simfs.New(quota); f != nil || err != api.ErrArg {
			t.Errorf("New(%d): %v, %d", quota, f, err)
		}
	}
}

// P4.1: there is no fuse and no failure.
func TestNewGoesOn(t *testing.T) {
	f := fresh(t, 100)
	ok(t, f.Create("a"))
	for range 1000 {
		ok(t, f.SyncDir(), f.Sync("a"))
	}
	if f.Ops() != 2001 {
		t.Errorf("Ops: %d", f.Ops())
	}
}

// P4.3: names that are there, and names that are not.
func TestRead(t *testing.T) {
	f := laid(t, 100, files{"a": "xyz", "b": "", "ab": "\x00\xff", "B": "b"})
	holds(t, f, files{"a": "xyz", "b": "", "ab": "\x00\xff", "B": "b"})
	for _, name := range []string{"", "c", "A", "a ", "abc", text(32), text(33)} {
		if b, err := f.Read(name); len(b) != 0 || err != api.ErrFsNone {
			t.Errorf("Read(%q): %q, %d", name, b, err)
		}
	}
	if f.Fuse(0); f.Ops() != 13 {
		t.Errorf("Ops: %d", f.Ops())
	}
}

// P4.3, R7: names rise byte by byte, whatever bytes they have.
func TestListRises(t *testing.T) {
	want := []string{"\x00", "\x00\x00", "!", "B", "a", "a\x00", "aa", "a\xff", "b", "é", "\xfe", "\xff", "\xff\xff"}
	f := fresh(t, 100)
	for i := range want {
		ok(t, f.Create(want[i*5%len(want)]))
	}
	if list, err := f.List(); !slices.Equal(list, want) || err != api.OK {
		t.Errorf("%q, %d", list, err)
	}
}

// P4.3: nothing is read when it is off, whether it is there or not, and all is again when it is on.
func TestReadWhenOff(t *testing.T) {
	f := laid(t, 100, files{"a": "xyz"})
	f.Fuse(0)
	for _, name := range []string{"a", "b", ""} {
		if b, err := f.Read(name); len(b) != 0 || err != api.ErrFsDown {
			t.Errorf("Read(%q): %q, %d", name, b, err)
		}
	}
	if list, err := f.List(); len(list) != 0 || err != api.ErrFsDown {
		t.Errorf("%q, %d", list, err)
	}
	f.Fuse(-1)
	holds(t, f, files{"a": "xyz"})
}

// P4.3: reading is no change: it burns no fuse, meets no failure, and is not counted.
func TestReadIsNoChange(t *testing.T) {
	f := laid(t, 100, files{"a": "xyz"})
	before := f.Ops()
	f.Fuse(2)
	f.Fail(1)
	for range 5 {
		f.Read("a")
		f.Read("b")
		f.List()
		ok(t, f.Damage("a", 0, 0))
	}
	if f.Ops() != before {
		t.Errorf("Ops: %d, not %d", f.Ops(), before)
	}
	ok(t, f.SyncDir())
	wrong(t, "the second change", f.SyncDir(), api.ErrFsIo)
	wrong(t, "the third change", f.SyncDir(), api.ErrFsDown)
}

// P4.3: Damage at both ends and beyond them, of a name that is none ahead of a place that is none.
func TestDamage(t *testing.T) {
	f := laid(t, 100, files{"a": "xyz", "b": "xyz", "c": ""})
	before := f.Ops()
	ok(t, f.Damage("a", 0, 0x20), f.Damage("a", 2, 0xff), f.Damage("a", 1, 0))
	holds(t, f, files{"a": "Xy\x85", "b": "xyz", "c": ""})
	ok(t, f.Damage("a", 0, 0x20), f.Damage("a", 2, 0xff))
	for _, at := range []int{-1, 3, 4, math.MinInt, math.MaxInt} {
		wrong(t, "no byte there", f.Damage("a", at, 1), api.ErrArg)
		wrong(t, "no such file", f.Damage("d", at, 1), api.ErrFsNone)
	}
	wrong(t, "a file without bytes", f.Damage("c", 0, 1), api.ErrArg)
	wrong(t, "no such file", f.Damage("", 0, 1), api.ErrFsNone)
	holds(t, f, files{"a": "xyz", "b": "xyz", "c": ""})
	if f.Ops() != before {
		t.Errorf("Ops: %d, not %d", f.Ops(), before)
	}
}

// P4.3: Damage when it is off; bytes that last and bytes that do not; a crash keeps what it did.
func TestDamageWhenOff(t *testing.T) {
	f := laid(t, 100, files{"a": "xy"})
	ok(t, f.Append("a", []byte("zw")))
	f.Fuse(0)
	ok(t, f.Damage("a", 1, 1), f.Damage("a", 2, 2))
	wrong(t, "no such file", f.Damage("b", 0, 1), api.ErrFsNone)
	wrong(t, "no byte there", f.Damage("a", 4, 1), api.ErrArg)
	wrong(t, "no byte there", f.Damage("a", -1, 1), api.ErrArg)
	f.Crash([]int{0, 1})
	holds(t, f, files{"a": "xxx"})
	f.Crash(nil)
	holds(t, f, files{"a": "xxx"})
}

// R1: a nil *FS.
func TestNil(t *testing.T) {
	var f *simfs.FS
	for i, err := range []api.Errno{f.Create("a"), f.Create(""), f.Append("a", []byte("x")), f.Append("", nil), f.Sync("a"),
		f.Rename("a", "b"), f.Rename("", ""), f.Remove("a"), f.SyncDir(), f.Damage("a", 0, 1), f.Damage("", -1, 0)} {
		if err != api.ErrArg {
			t.Errorf("the call at %d: %d", i, err)
		}
	}
	if b, err := f.Read("a"); len(b) != 0 || err != api.ErrArg {
		t.Errorf("Read: %q, %d", b, err)
	}
	if list, err := f.List(); len(list) != 0 || err != api.ErrArg {
		t.Errorf("List: %q, %d", list, err)
	}
	f.Fuse(0)
	f.Fail(0)
	f.Crash(nil)
	f.Crash([]int{1, -1})
	if f.Ops() != 0 || f.Copy() != nil {
		t.Errorf("Ops: %d, Copy: %v", f.Ops(), f.Copy())
	}
}

// R1: one that New did not make, and one that was assigned, at whatever calls.
func TestHandMade(t *testing.T) {
	var f simfs.FS
	holds(t, &f, nil)
	f.Crash([]int{1, 2})
	if c := f.Copy(); c == nil || c.Ops() != 0 {
		t.Errorf("Copy: %v", c)
	}
	ok(t, f.SyncDir(), f.Create("a"), f.Append("a", nil), f.Sync("a"))
	wrong(t, "no room", f.Append("a", []byte("x")), api.ErrFsFull)
	ok(t, f.SyncDir(), f.Rename("a", "b"))
	f.Crash([]int{1})
	holds(t, &f, files{"b": ""})

	one := laid(t, 100, files{"a": "x", "b": "y"})
	other := *one
	one.Rename("a", "c")
	other.Rename("c", "d")
	one.Remove("b")
	one.Remove("d")
	for _, g := range []*simfs.FS{&other, one} {
		g.SyncDir()
		g.Copy().Crash([]int{9, 9, 9})
		g.Crash([]int{9, 9, 9})
		g.List()
		g.Append("a", []byte("z"))
		g.Append("d", []byte("z"))
		g.Crash([]int{9, 9, 9})
	}
}
