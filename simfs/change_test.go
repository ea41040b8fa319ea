package simfs_test

import (
	"math"
	"testing"

	"staddle/api"
	"staddle/simfs"
)

// change is one call of those that are changes.
type change struct {
	name string
	do   func(f *simfs.FS) api.Errno
}

// changes are calls that are all done, in this order, with no files at first and a quota of 3.
func changes() []change {
	return []change{
		{"Create", func(f *simfs.FS) api.Errno { return f.Create("a") }},
		{"Append", func(f *simfs.FS) api.Errno { return f.Append("a", []byte("xyz")) }},
		{"Sync", func(f *simfs.FS) api.Errno { return f.Sync("a") }},
		{"Rename", func(f *simfs.FS) api.Errno { return f.Rename("a", "b") }},
		{"SyncDir", func(f *simfs.FS) api.Errno { return f.SyncDir() }},
		{"Remove", func(f *simfs.FS) api.Errno { return f.Remove("b") }},
	}
}

// faults are calls that are refused, each with its error, where there are the files a, of three bytes, and b, of none, and a quota of 3.
func faults() map[string]struct {
	do   func(f *simfs.FS) api.Errno
	want api.Errno
} {
	type calls = map[string]struct {
		do   func(f *simfs.FS) api.Errno
		want api.Errno
	}
	return calls{
		"Create, no name":           {func(f *simfs.FS) api.Errno { return f.Create("") }, api.ErrFsName},
		"Create, 33":                {func(f *simfs.FS) api.Errno { return f.Create(text(33)) }, api.ErrFsName},
		"Create, 100000":            {func(f *simfs.FS) api.Errno { return f.Create(text(100000)) }, api.ErrFsName},
		"Create, there":             {func(f *simfs.FS) api.Errno { return f.Create("a") }, api.ErrFsExists},
		"Append, none":              {func(f *simfs.FS) api.Errno { return f.Append("c", nil) }, api.ErrFsNone},
		"Append, no name":           {func(f *simfs.FS) api.Errno { return f.Append("", nil) }, api.ErrFsNone},
		"Append, 33":                {func(f *simfs.FS) api.Errno { return f.Append(text(33), []byte("x")) }, api.ErrFsNone},
		"Append, none and full":     {func(f *simfs.FS) api.Errno { return f.Append("c", make([]byte, 4)) }, api.ErrFsNone},
		"Append, full":              {func(f *simfs.FS) api.Errno { return f.Append("a", []byte("x")) }, api.ErrFsFull},
		"Append, full by another":   {func(f *simfs.FS) api.Errno { return f.Append("b", []byte("x")) }, api.ErrFsFull},
		"Append, far too many":      {func(f *simfs.FS) api.Errno { return f.Append("b", make([]byte, 1<<21)) }, api.ErrFsFull},
		"Sync, none":                {func(f *simfs.FS) api.Errno { return f.Sync("c") }, api.ErrFsNone},
		"Sync, no name":             {func(f *simfs.FS) api.Errno { return f.Sync("") }, api.ErrFsNone},
		"Rename, none":              {func(f *simfs.FS) api.Errno { return f.Rename("c", "d") }, api.ErrFsNone},
		"Rename, none, there":       {func(f *simfs.FS) api.Errno { return f.Rename("c", "a") }, api.ErrFsNone},
		"Rename, none, its own":     {func(f *simfs.FS) api.Errno { return f.Rename("c", "c") }, api.ErrFsNone},
		"Rename, none, to no name":  {func(f *simfs.FS) api.Errno { return f.Rename("c", "") }, api.ErrFsNone},
		"Rename, none, to 33":       {func(f *simfs.FS) api.Errno { return f.Rename("c", text(33)) }, api.ErrFsNone},
		"Rename, no name":           {func(f *simfs.FS) api.Errno { return f.Rename("", "") }, api.ErrFsNone},
		"Rename, 33, its own":       {func(f *simfs.FS) api.Errno { return f.Rename(text(33), text(33)) }, api.ErrFsNone},
		"Rename, there, to no name": {func(f *simfs.FS) api.Errno { return f.Rename("a", "") }, api.ErrFsName},
		"Rename, there, to 33":      {func(f *simfs.FS) api.Errno { return f.Rename("a", text(33)) }, api.ErrFsName},
		"Remove, none":              {func(f *simfs.FS) api.Errno { return f.Remove("c") }, api.ErrFsNone},
		"Remove, no name":           {func(f *simfs.FS) api.Errno { return f.Remove("") }, api.ErrFsNone},
		"Remove, 33":                {func(f *simfs.FS) api.Errno { return f.Remove(text(33)) }, api.ErrFsNone},
	}
}

// P4.2: what is refused, with what stays: the files, now and behind a crash, and one change more that was asked for.
func TestRefused(t *testing.T) {
	for name, c := range faults() {
		f := laid(t, 3, files{"a": "xyz", "b": ""})
		before := f.Ops()
		wrong(t, name, c.do(f), c.want)
		if f.Ops() != before+1 {
			t.Errorf("%s: Ops is %d, and was %d", name, f.Ops(), before)
		}
		holds(t, f, files{"a": "xyz", "b": ""})
		ok(t, f.Rename("a", "c"))
		f.Crash([]int{1})
		holds(t, f, files{"b": "", "c": "xyz"})
	}
}

// P4.2: the power is asked ahead of the failure to come, and both ahead of what is wrong with the call.
func TestOffAndFailureAreFirst(t *testing.T) {
	for name, c := range faults() {
		f := laid(t, 3, files{"a": "xyz", "b": ""})
		f.Fuse(0)
		f.Fail(0)
		wrong(t, name+", off", c.do(f), api.ErrFsDown)
		f.Fuse(1)
		wrong(t, name+", failing", c.do(f), api.ErrFsIo)
		wrong(t, name+", off behind the failure", c.do(f), api.ErrFsDown)
		f.Fuse(-1)
		wrong(t, name+", on", c.do(f), c.want)
		holds(t, f, files{"a": "xyz", "b": ""})
	}
}

// P4.2: every change burns the fuse and counts for the failure, one that is refused too.
func TestRefusedCount(t *testing.T) {
	for name, c := range faults() {
		f := laid(t, 3, files{"a": "xyz", "b": ""})
		f.Fuse(3)
		f.Fail(2)
		for _, want := range []api.Errno{c.want, c.want, api.ErrFsIo, api.ErrFsDown, api.ErrFsDown} {
			wrong(t, name, c.do(f), want)
		}
	}
}

// P4.2: Create at both ends of a name's length, and of a name that is free again.
func TestCreate(t *testing.T) {
	f := fresh(t, 10)
	ok(t, f.Create("a"), f.Create(text(32)), f.Create("\x00"), f.Append("a", []byte("xyz")))
	holds(t, f, files{"a": "xyz", text(32): "", "\x00": ""})
	wrong(t, "there", f.Create("a"), api.ErrFsExists)
	wrong(t, "there, 32", f.Create(text(32)), api.ErrFsExists)
	ok(t, f.Remove("a"), f.Create("a"), f.Remove(text(32)), f.Rename("a", "b"), f.Create("a"))
	holds(t, f, files{"a": "", "b": "", "\x00": ""})
}

// P4.2: what is laid stands behind what was there, in order.
func TestAppend(t *testing.T) {
	f := fresh(t, 10)
	ok(t, f.Create("a"), f.Create("b"), f.Append("a", []byte("xy")), f.Append("b", []byte("1")), f.Append("a", nil), f.Append("a", []byte{}),
		f.Append("a", []byte("z")), f.Sync("a"), f.Append("a", []byte("\x00\xff")), f.Append("b", []byte("2")))
	holds(t, f, files{"a": "xyz\x00\xff", "b": "12"})
}

// P4.2: bytes that fill the quota, and one more; files that have no name any more have room for others.
func TestQuota(t *testing.T) {
	full := func(f *simfs.FS, room int) {
		t.Helper()
		for _, name := range []string{"a", "b"} {
			g := f.Copy()
			wrong(t, "one more", g.Append(name, make([]byte, room+1)), api.ErrFsFull)
			wrong(t, "so many", g.Append(name, make([]byte, room)), api.OK)
			wrong(t, "none", g.Append(name, nil), api.OK)
			wrong(t, "one more behind", g.Append(name, make([]byte, 1)), api.ErrFsFull)
		}
	}
	f := laid(t, 10, files{"a": "123", "b": "45", "c": "6789"})
	full(f, 1)
	ok(t, f.Rename("a", "a"))
	full(f, 1)
	ok(t, f.Rename("a", "d"), f.Rename("d", "a"))
	full(f, 1)
	removed := f.Copy()
	ok(t, removed.Remove("c"))
	full(removed, 5)
	ok(t, f.Rename("c", "a"))
	full(f, 4)
	ok(t, f.Rename("b", "a"), f.Create("b"))
	full(f, 8)
}

// P4.2: the quota behind a crash is of the files that stay, and no more is laid where they have more than it.
func TestQuotaBehindCrash(t *testing.T) {
	f := laid(t, 10, files{"a": "123", "b": ""})
	ok(t, f.Append("b", []byte("4567")))
	f.Crash([]int{0, 0, 1})
	holds(t, f, files{"a": "123", "b": "4"})
	wrong(t, "7", f.Append("a", make([]byte, 7)), api.ErrFsFull)
	wrong(t, "6", f.Append("a", make([]byte, 6)), api.OK)

	f = laid(t, 10, files{"a": "123", "b": ""})
	ok(t, f.Remove("a"), f.Append("b", make([]byte, 10)), f.Sync("b"))
	f.Crash(nil)
	holds(t, f, files{"a": "123", "b": string(make([]byte, 10))})
	wrong(t, "1", f.Append("a", []byte("x")), api.ErrFsFull)
	wrong(t, "none", f.Append("a", nil), api.ErrFsFull)
	ok(t, f.Remove("b"))
	wrong(t, "8", f.Append("a", make([]byte, 8)), api.ErrFsFull)
	wrong(t, "7", f.Append("a", make([]byte, 7)), api.OK)
}

// P4.2: Rename to a new name, onto another file, onto its own name, and at both ends of a name's length.
func TestRename(t *testing.T) {
	f := laid(t, 10, files{"a": "x", "b": "yz"})
	ok(t, f.Rename("a", "c"))
	holds(t, f, files{"b": "yz", "c": "x"})
	ok(t, f.Rename("c", "b"))
	holds(t, f, files{"b": "x"})
	ok(t, f.Rename("b", "b"))
	holds(t, f, files{"b": "x"})
	ok(t, f.Rename("b", text(32)), f.Append(text(32), []byte("w")))
	holds(t, f, files{text(32): "xw"})
	ok(t, f.Rename(text(32), "a"))
	holds(t, f, files{"a": "xw"})
}

// P4.2: Remove of all, one after the other.
func TestRemove(t *testing.T) {
	f := laid(t, 10, files{"a": "x", "b": "yz"})
	ok(t, f.Remove("a"))
	holds(t, f, files{"b": "yz"})
	wrong(t, "it is gone", f.Remove("a"), api.ErrFsNone)
	ok(t, f.Remove("b"))
	holds(t, f, nil)
}

// P4.2, P4.4: a fuse of each length lets just so many changes through, whichever they are; the next ones do nothing.
func TestFuse(t *testing.T) {
	for n := range len(changes()) + 2 {
		f := fresh(t, 3)
		twin := fresh(t, 3)
		f.Fuse(n)
		for i, c := range changes() {
			if i < n {
				wrong(t, c.name, c.do(f), api.OK)
				ok(t, c.do(twin))
			} else {
				wrong(t, c.name, c.do(f), api.ErrFsDown)
			}
			if f.Ops() != i+1 {
				t.Errorf("Ops: %d behind %d", f.Ops(), i+1)
			}
		}
		f.Fuse(-1)
		same(t, f, twin)
	}
}

// P4.2, P4.4: a failure behind each number of changes is that of one of them, whichever it is; it does nothing.
func TestFail(t *testing.T) {
	for n := range changes() {
		f := fresh(t, 3)
		twin := fresh(t, 3)
		f.Fail(n)
		for i, c := range changes() {
			if i == n {
				wrong(t, c.name, c.do(f), api.ErrFsIo)
				break
			}
			wrong(t, c.name, c.do(f), api.OK)
			ok(t, c.do(twin))
		}
		same(t, f, twin)
		// It was the only one.
		for i, c := range changes()[n:] {
			wrong(t, c.name, c.do(f), api.OK)
			if f.Ops() != n+i+2 {
				t.Errorf("Ops: %d", f.Ops())
			}
		}
	}
}

// same tells a fault if two hold other files, now or behind a crash of any names' changes, with bytes cut or not.
func same(t *testing.T, f, twin *simfs.FS) {
	t.Helper()
	look := func(a, b *simfs.FS) {
		t.Helper()
		names, _ := b.List()
		want := files{}
		for _, name := range names {
			bytes, _ := b.Read(name)
			want[name] = string(bytes)
		}
		holds(t, a, want)
	}
	look(f, twin)
	for n := range len(changes()) + 1 {
		for _, loose := range []int{0, 1, 3} {
			a, b := f.Copy(), twin.Copy()
			a.Crash([]int{n, loose})
			b.Crash([]int{n, loose})
			look(a, b)
		}
	}
}

// P4.4: a fuse that is set anew, to more, to fewer, to none, when it is on and when it is off.
func TestFuseAnew(t *testing.T) {
	f := laid(t, 3, files{"a": ""})
	burn := func(want ...api.Errno) {
		t.Helper()
		for _, w := range want {
			wrong(t, "Sync", f.Sync("a"), w)
		}
	}
	f.Fuse(1)
	f.Fuse(2)
	burn(api.OK, api.OK, api.ErrFsDown, api.ErrFsDown)
	f.Fuse(1)
	burn(api.OK, api.ErrFsDown)
	f.Fuse(-1)
	burn(api.OK, api.OK, api.OK)
	f.Fuse(5)
	burn(api.OK)
	f.Fuse(0)
	burn(api.ErrFsDown)
	f.Fuse(math.MinInt)
	burn(api.OK, api.OK)
	f.Fuse(math.MaxInt)
	burn(api.OK, api.OK)
	if f.Ops() != 19 {
		t.Errorf("Ops: %d", f.Ops())
	}
}

// P4.4: a failure that is set anew, or taken back.
func TestFailAnew(t *testing.T) {
	f := laid(t, 3, files{"a": ""})
	try := func(want ...api.Errno) {
		t.Helper()
		for _, w := range want {
			wrong(t, "Sync", f.Sync("a"), w)
		}
	}
	f.Fail(0)
	try(api.ErrFsIo, api.OK, api.OK)
	f.Fail(1)
	try(api.OK, api.ErrFsIo, api.OK, api.OK)
	f.Fail(0)
	f.Fail(-1)
	try(api.OK, api.OK)
	f.Fail(1)
	f.Fail(2)
	try(api.OK, api.OK, api.ErrFsIo, api.OK)
	f.Fail(math.MinInt)
	try(api.OK)
	f.Fail(math.MaxInt)
	try(api.OK, api.OK)
}

// P4.2, P4.4: a fuse and a failure side by side: the failed change burns the fuse, and those when it is off do not count for the failure.
func TestFuseAndFail(t *testing.T) {
	for _, c := range []struct {
		fuse, fail int
		want       []api.Errno
	}{
		{0, 0, []api.Errno{api.ErrFsDown, api.ErrFsDown}},
		{1, 0, []api.Errno{api.ErrFsIo, api.ErrFsDown, api.ErrFsDown}},
		{2, 0, []api.Errno{api.ErrFsIo, api.OK, api.ErrFsDown}},
		{1, 1, []api.Errno{api.OK, api.ErrFsDown, api.ErrFsDown}},
		{3, 1, []api.Errno{api.OK, api.ErrFsIo, api.OK, api.ErrFsDown}},
		{-1, 1, []api.Errno{api.OK, api.ErrFsIo, api.OK, api.OK}},
		{1, -1, []api.Errno{api.OK, api.ErrFsDown}},
		{-1, -1, []api.Errno{api.OK, api.OK}},
	} {
		f := laid(t, 3, files{"a": ""})
		f.Fuse(c.fuse)
		f.Fail(c.fail)
		for i, want := range c.want {
			if err := f.SyncDir(); err != want {
				t.Errorf("Fuse(%d), Fail(%d), the change at %d: %d, not %d", c.fuse, c.fail, i, err, want)
			}
		}
	}
	f := laid(t, 3, files{"a": ""})
	f.Fuse(1)
	f.Fail(2)
	wrong(t, "on", f.Sync("a"), api.OK)
	wrong(t, "off", f.Sync("a"), api.ErrFsDown)
	wrong(t, "off", f.Sync("a"), api.ErrFsDown)
	f.Fuse(-1)
	wrong(t, "on", f.Sync("a"), api.OK)
	wrong(t, "the failure", f.Sync("a"), api.ErrFsIo)
}
