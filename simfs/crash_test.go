package simfs_test

import (
	"math"
	"slices"
	"testing"

	"staddle/api"
	"staddle/simfs"
)

// begun is the file system of the chapter's examples.
func begun(t *testing.T) *simfs.FS {
	t.Helper()
	f := fresh(t, 100)
	ok(t, f.Create("a"), f.Append("a", []byte("xy")), f.Sync("a"), f.Append("a", []byte("z")))
	return f
}

// crashed tells a fault if a crash of a copy, or the same once more, leaves other files than these.
func crashed(t *testing.T, f *simfs.FS, picks []int, want files) {
	t.Helper()
	g := f.Copy()
	g.Crash(picks)
	holds(t, g, want)
	// All that stayed lasts.
	for _, again := range [][]int{nil, picks, {5, 5, 5, 5}} {
		g.Crash(again)
		holds(t, g, want)
	}
}

// The chapter's examples.
func TestExamples(t *testing.T) {
	crashed(t, begun(t), []int{1, 0}, files{"a": "xy"})
	crashed(t, begun(t), []int{0}, nil)
	f := begun(t)
	ok(t, f.SyncDir(), f.Rename("a", "b"))
	crashed(t, f, []int{0}, files{"a": "xy"})
	crashed(t, f, []int{1}, files{"b": "xy"})
	f = fresh(t, 100)
	f.Fuse(1)
	wrong(t, "the first", f.Create("a"), api.OK)
	wrong(t, "the second", f.Create("b"), api.ErrFsDown)
}

// P4.5: picks of the bytes: by the remainder by one more than there are loose ones, below 0 too.
func TestLooseBytes(t *testing.T) {
	f := begun(t)
	ok(t, f.SyncDir(), f.Append("a", []byte("w")))
	for pick, want := range map[int]string{0: "xy", 1: "xyz", 2: "xyzw", 3: "xy", 4: "xyz", 5: "xyzw", 299: "xyzw", 300: "xy",
		-1: "xy", -2: "xyz", -3: "xyzw", -4: "xy", math.MaxInt: "xyz", math.MinInt: "xyz", math.MinInt + 1: "xy", math.MaxInt - 1: "xy"} {
		crashed(t, f, []int{0, pick}, files{"a": want})
	}
	for _, picks := range [][]int{nil, {}, {0}, {7}, {-7}} {
		crashed(t, f, picks, files{"a": "xy"})
	}
}

// P4.5: picks of the names' changes, likewise.
func TestLooseNames(t *testing.T) {
	f := laid(t, 100, files{"a": "1", "b": "2"})
	ok(t, f.Create("c"), f.Rename("a", "b"), f.Remove("c"))
	want := []files{{"a": "1", "b": "2"}, {"a": "1", "b": "2", "c": ""}, {"b": "1", "c": ""}, {"b": "1"}}
	for _, pick := range []int{0, 1, 2, 3, 4, 5, 6, 7, 400, 403} {
		crashed(t, f, []int{pick}, want[pick%4])
		crashed(t, f, []int{-1 - pick}, want[pick%4])
	}
	crashed(t, f, []int{math.MaxInt}, want[3])
	crashed(t, f, []int{math.MinInt}, want[3])
	crashed(t, f, []int{math.MinInt + 1}, want[2])
	crashed(t, f, nil, want[0])
	ok(t, f.SyncDir())
	for pick := range 5 {
		crashed(t, f, []int{pick}, want[3])
	}
}

// P4.5: each file has the pick of its place among those that have names behind the crash; more picks than files, and fewer.
func TestPicksByName(t *testing.T) {
	f := fresh(t, 100)
	for _, name := range []string{"c", "a", "d", "b"} {
		ok(t, f.Create(name), f.Append(name, []byte("wxyz")))
	}
	// Behind two changes of names: a and c; behind four: all.
	crashed(t, f, []int{2, 1, 2, 3, 4}, files{"a": "w", "c": "wx"})
	crashed(t, f, []int{4, 1, 2, 3, 4}, files{"a": "w", "b": "wx", "c": "wxy", "d": "wxyz"})
	crashed(t, f, []int{4, 1, 2, 3, 4, 5, 6}, files{"a": "w", "b": "wx", "c": "wxy", "d": "wxyz"})
	crashed(t, f, []int{4, 4, -3}, files{"a": "wxyz", "b": "wx", "c": "", "d": ""})
	crashed(t, f, []int{4, 0, 0, 0, 9}, files{"a": "", "b": "", "c": "", "d": "wxyz"})
	// One without loose bytes takes a pick as well.
	ok(t, f.Sync("b"))
	crashed(t, f, []int{4, 1, 3, 2}, files{"a": "w", "b": "wxyz", "c": "wx", "d": ""})
	// Names that it has not any more take none.
	ok(t, f.SyncDir(), f.Rename("a", "e"), f.Remove("c"))
	crashed(t, f, []int{2, 1, 2, 3}, files{"b": "wxyz", "d": "wx", "e": "wxy"})
	crashed(t, f, []int{1, 1, 2, 3, 4}, files{"b": "wxyz", "c": "wx", "d": "wxy", "e": "wxyz"})
	crashed(t, f, []int{0, 1, 2, 3, 4}, files{"a": "w", "b": "wxyz", "c": "wxy", "d": "wxyz"})
}

// P4.5: a file that was removed, or renamed over, has the bytes that it had; those of it that did not last are cut like others'.
func TestComesBack(t *testing.T) {
	f := begun(t)
	ok(t, f.Remove("a"))
	crashed(t, f, []int{0}, nil)
	crashed(t, f, []int{1, 0}, files{"a": "xy"})
	crashed(t, f, []int{1, 1}, files{"a": "xyz"})
	crashed(t, f, []int{2}, nil)
	// A new one of that name is another file.
	ok(t, f.Create("a"), f.Append("a", []byte("new")), f.Sync("a"))
	crashed(t, f, []int{1, 1}, files{"a": "xyz"})
	crashed(t, f, []int{3}, files{"a": "new"})

	f = begun(t)
	ok(t, f.SyncDir(), f.Create("b"), f.Append("b", []byte("12")), f.Rename("b", "a"), f.Append("a", []byte("3")))
	holds(t, f, files{"a": "123"})
	crashed(t, f, []int{0, 1}, files{"a": "xyz"})
	crashed(t, f, []int{1, 0, 3}, files{"a": "xy", "b": "123"})
	crashed(t, f, []int{2, 2}, files{"a": "12"})
	ok(t, f.Damage("a", 0, 1), f.Remove("a"))
	crashed(t, f, []int{2, 3}, files{"a": "023"})
	crashed(t, f, []int{0, 1}, files{"a": "xyz"})
	crashed(t, f, []int{3, 1}, nil)
}

// P4.5: bytes are the file's, whatever name it has by the time.
func TestBytesGoWithTheFile(t *testing.T) {
	f := begun(t)
	ok(t, f.SyncDir(), f.Rename("a", "b"), f.Append("b", []byte("w")))
	crashed(t, f, []int{0, 2}, files{"a": "xyzw"})
	crashed(t, f, []int{1, 1}, files{"b": "xyz"})
	ok(t, f.Sync("b"))
	crashed(t, f, []int{0}, files{"a": "xyzw"})
	crashed(t, f, []int{1}, files{"b": "xyzw"})
	ok(t, f.Create("a"), f.Append("a", []byte("1")), f.Sync("a"))
	crashed(t, f, []int{0}, files{"a": "xyzw"})
	crashed(t, f, []int{2}, files{"a": "1", "b": "xyzw"})
}

// P4.2, P4.5: a Rename onto its own name is a change of names.
func TestRenameOntoItself(t *testing.T) {
	f := laid(t, 100, files{"a": "x"})
	ok(t, f.Rename("a", "a"), f.Create("b"))
	crashed(t, f, []int{0}, files{"a": "x"})
	crashed(t, f, []int{1}, files{"a": "x"})
	crashed(t, f, []int{2}, files{"a": "x", "b": ""})
	crashed(t, f, []int{3}, files{"a": "x"})
}

// P4.2, P4.5: Sync is of one file, and not of names; SyncDir is of names, and not of bytes.
func TestSyncs(t *testing.T) {
	f := fresh(t, 100)
	ok(t, f.Create("a"), f.Create("b"), f.Append("a", []byte("x")), f.Append("b", []byte("y")), f.Sync("a"))
	crashed(t, f, []int{0}, nil)
	crashed(t, f, []int{2}, files{"a": "x", "b": ""})
	ok(t, f.SyncDir())
	crashed(t, f, []int{0}, files{"a": "x", "b": ""})
	ok(t, f.Sync("b"))
	crashed(t, f, []int{0}, files{"a": "x", "b": "y"})
	ok(t, f.Append("a", []byte("z")), f.SyncDir())
	crashed(t, f, []int{0}, files{"a": "x", "b": "y"})
}

// P4.5: behind a crash there is no fuse and no failure, and Ops goes on.
func TestCrashMends(t *testing.T) {
	f := laid(t, 100, files{"a": "x"})
	f.Fuse(0)
	f.Crash(nil)
	holds(t, f, files{"a": "x"})
	ok(t, f.Sync("a"))
	f.Fail(0)
	f.Crash(nil)
	ok(t, f.Sync("a"))
	f.Fuse(2)
	f.Fail(1)
	f.Crash(nil)
	ok(t, f.Sync("a"), f.Sync("a"), f.Sync("a"), f.Sync("a"))
	if f.Ops() != 10 {
		t.Errorf("Ops: %d", f.Ops())
	}
	f.Crash([]int{3})
	if f.Ops() != 10 {
		t.Errorf("Ops: %d", f.Ops())
	}
}

// P4.5: a crash, more changes, and a crash again: what stayed the first time lasts.
func TestCrashTwice(t *testing.T) {
	f := fresh(t, 100)
	ok(t, f.Create("a"), f.Create("b"), f.Append("a", []byte("xyz")))
	f.Crash([]int{1, 2})
	holds(t, f, files{"a": "xy"})
	ok(t, f.Append("a", []byte("w")), f.Create("b"), f.Append("b", []byte("1")))
	holds(t, f, files{"a": "xyw", "b": "1"})
	crashed(t, f, []int{0, 0}, files{"a": "xy"})
	crashed(t, f, []int{1, 0, 0}, files{"a": "xy", "b": ""})
	crashed(t, f, []int{1, 1, 1}, files{"a": "xyw", "b": "1"})
	ok(t, f.Remove("a"))
	crashed(t, f, []int{0, 1}, files{"a": "xyw"})
	crashed(t, f, []int{2}, files{"b": ""})
}

// P4.5: a Copy has all that its original has: the quota, the fuse, the failure, Ops, and what does not last.
func TestCopyIsLikewise(t *testing.T) {
	f := laid(t, 4, files{"a": "x"})
	ok(t, f.Append("a", []byte("yz")), f.Rename("a", "b"))
	f.Fuse(2)
	f.Fail(1)
	g := f.Copy()
	if g.Ops() != f.Ops() || f.Ops() != 6 {
		t.Errorf("Ops: %d, %d", g.Ops(), f.Ops())
	}
	holds(t, g, files{"b": "xyz"})
	for _, x := range []*simfs.FS{f, g} {
		wrong(t, "two more", x.Append("b", make([]byte, 2)), api.ErrFsFull)
		wrong(t, "the failure", x.Sync("b"), api.ErrFsIo)
		wrong(t, "off", x.Sync("b"), api.ErrFsDown)
	}
	if _, err := g.Copy().List(); err != api.ErrFsDown {
		t.Errorf("a copy of one that is off: %d", err)
	}
	f.Crash([]int{0, 1})
	holds(t, f, files{"a": "xy"})
	g.Crash([]int{1, 2})
	holds(t, g, files{"b": "xyz"})
}

// P4.5: a Copy and its original go on, each by itself, whichever is changed.
func TestCopySharesNothing(t *testing.T) {
	for turn := range 2 {
		f := laid(t, 100, files{"a": "1", "b": "2"})
		ok(t, f.Create("c"), f.Append("c", []byte("3")), f.Append("a", []byte("+")), f.Remove("b"))
		pair := []*simfs.FS{f, f.Copy()}
		goes, stays := pair[turn], pair[1-turn]
		ops := stays.Ops()
		ok(t, goes.Damage("a", 0, 1), goes.Damage("c", 0, 1), goes.Append("a", []byte("-")), goes.Append("c", []byte("-")), goes.Sync("a"), goes.Sync("c"),
			goes.Rename("a", "d"), goes.Create("b"), goes.Remove("c"), goes.SyncDir(), goes.Create("e"))
		goes.Fuse(0)
		goes.Fail(0)
		holds(t, stays, files{"a": "1+", "c": "3"})
		if stays.Ops() != ops {
			t.Errorf("Ops: %d, not %d", stays.Ops(), ops)
		}
		crashed(t, stays, []int{0, 0}, files{"a": "1", "b": "2"})
		crashed(t, stays, []int{1, 1, 0, 1}, files{"a": "1+", "b": "2", "c": "3"})
		crashed(t, stays, []int{2, 0, 0}, files{"a": "1", "c": ""})
		goes.Crash(nil)
		holds(t, goes, files{"b": "", "d": "0+-"})
		ok(t, stays.Append("a", make([]byte, 97)), stays.SyncDir())
		wrong(t, "one more", stays.Append("a", []byte("x")), api.ErrFsFull)
	}
}

// P4.5: a file that has other names now and lastingly is one file in a Copy too.
func TestCopyKeepsOneFileOne(t *testing.T) {
	f := laid(t, 100, files{"a": "1"})
	ok(t, f.Rename("a", "b"), f.Create("a"), f.Rename("a", "c"))
	g := f.Copy()
	ok(t, g.Append("b", []byte("2")), g.Sync("b"), g.Append("c", []byte("3")), g.Sync("c"), g.Damage("b", 0, 1))
	crashed(t, g, []int{0}, files{"a": "02"})
	crashed(t, g, []int{1}, files{"b": "02"})
	crashed(t, g, []int{2}, files{"a": "3", "b": "02"})
	crashed(t, g, []int{3}, files{"b": "02", "c": "3"})
	holds(t, f, files{"b": "1", "c": ""})
}

// P4.6: behind a crash without anything since the last Sync and SyncDir all is as it was, whatever the picks.
func TestCrashOfNothing(t *testing.T) {
	want := files{"a": "x", "b": "", "c": "yz"}
	f := laid(t, 100, want)
	for _, picks := range [][]int{nil, {1}, {2, 2, 2, 2}, {-1, -2, -3, -4, -5}, {math.MinInt, math.MaxInt, math.MinInt, math.MaxInt}, slices.Repeat([]int{7}, 100)} {
		f.Crash(picks)
		holds(t, f, want)
	}
}
