package version_test

import (
	"slices"
	"strings"
	"testing"

	"staddle/api"
	"staddle/version"
)

const (
	topNum  = 1 << 40
	topSeq  = 1<<56 - 1
	topSize = 1<<31 - 1
)

// put is a key that puts.
func put(user string, seq uint64) api.IKey { return api.IKey{User: user, Seq: seq, Kind: api.Put} }

// file is a file that has the users from from to to.
func file(level int, num uint64, from, to string) api.File {
	return api.File{Level: level, Num: num, Size: 10, Small: put(from, 2), Large: put(to, 1)}
}

// levels are files, level by level.
func levels(l ...[]api.File) api.Version {
	var v api.Version
	copy(v.L[:], l)
	return v
}

// stand are files, each behind those of its level that are named ahead of it.
func stand(l ...api.File) api.Version {
	var v api.Version
	for _, f := range l {
		v.L[f.Level] = append(v.L[f.Level], f)
	}
	return v
}

// some are files that may be together, in all levels.
func some() api.Version {
	return stand(
		file(0, 30, "a", "z"), file(0, 20, "m", "p"), file(0, 10, "b", "q"),
		file(1, 3, "b", "d"), file(1, 25, "f", "h"), file(1, 1, "m", "m"),
		file(2, 4, "", "c"), file(2, 2, "c\x00", "k"),
		file(3, 40, "\xfe", "\xff\xff"))
}

// gone is a file that is not there any more.
func gone(level int, num uint64) api.Gone { return api.Gone{Level: level, Num: num} }

// dels is an edit of files that are gone.
func dels(l ...api.Gone) api.Edit { return api.Edit{Dels: l} }

// adds is an edit of files that are added.
func adds(l ...api.File) api.Edit { return api.Edit{Adds: l} }

// copied is a version of lists of its own.
func copied(v api.Version) api.Version {
	for i, l := range v.L {
		v.L[i] = append([]api.File{}, l...)
	}
	return v
}

// same is whether two versions have the same files in the same places.
func same(v, w api.Version) bool {
	return slices.EqualFunc(v.L[:], w.L[:], slices.Equal[[]api.File])
}

// empty is whether there is no file.
func empty(v api.Version) bool { return same(v, api.Version{}) }

// nums are the numbers of files, in their order.
func nums(l []api.File) []uint64 {
	var out []uint64
	for _, f := range l {
		out = append(out, f.Num)
	}
	return out
}

// makes tells a fault if an edit does not make of files what is wanted.
func makes(t *testing.T, what string, v api.Version, x api.Edit, want api.Version) {
	t.Helper()
	got, err := version.Apply(v, x)
	if err != api.OK || !same(got, want) {
		t.Errorf("%s: %d, %+v; want %+v", what, err, got, want)
	}
	if err := version.Check(got); err != api.OK {
		t.Errorf("%s: what it makes may not be together", what)
	}
}

// refuses tells a fault if an edit is not refused so.
func refuses(t *testing.T, what string, v api.Version, x api.Edit, want api.Errno) {
	t.Helper()
	if got, err := version.Apply(v, x); err != want || !empty(got) {
		t.Errorf("%s: %d, %+v; want %d", what, err, got, want)
	}
}

// P14.1 to P14.3: the chapter's examples.
func TestExamples(t *testing.T) {
	v, err := version.Apply(api.Version{}, adds(file(1, 3, "a", "c")))
	if err != api.OK {
		t.Fatal(err)
	}
	refuses(t, "c to d", v, adds(file(1, 4, "c", "d")), api.ErrVersionOver)
	v, err = version.Apply(v, adds(file(1, 4, "d", "e")))
	if err != api.OK {
		t.Fatal(err)
	}
	refuses(t, "number 9", v, dels(gone(1, 9)), api.ErrVersionGone)
	refuses(t, "number 3 in level 0", v, adds(file(0, 3, "x", "y")), api.ErrVersionSame)
	if l := nums(version.Over(v, 1, "b", "z")); !slices.Equal(l, []uint64{3, 4}) {
		t.Errorf("Over: %v", l)
	}
	if l := nums(version.Ask(v, "d")); !slices.Equal(l, []uint64{4}) {
		t.Errorf("Ask: %v", l)
	}
}

// The errors' numbers are api's, as the chapter tells them.
func TestErrorNumbers(t *testing.T) {
	got := []api.Errno{api.ErrVersionForm, api.ErrVersionGone, api.ErrVersionSame, api.ErrVersionOver}
	if !slices.Equal(got, []api.Errno{140, 141, 142, 143}) {
		t.Errorf("%v", got)
	}
}

// wrongFiles are files of level 1 that edit.Check refuses, by each of its errors; the level's own are told elsewhere.
func wrongFiles() map[string]api.File {
	long := strings.Repeat("x", 65)
	change := func(spoil func(f *api.File)) api.File {
		f := file(1, 50, "r", "t")
		spoil(&f)
		return f
	}
	return map[string]api.File{
		"number 0":                 change(func(f *api.File) { f.Num = 0 }),
		"a number above":           change(func(f *api.File) { f.Num = topNum + 1 }),
		"Size 0":                   change(func(f *api.File) { f.Size = 0 }),
		"Size below 0":             change(func(f *api.File) { f.Size = -1 }),
		"Size above":               change(func(f *api.File) { f.Size = topSize + 1 }),
		"Small's key long":         change(func(f *api.File) { f.Small.User = "r" + long }),
		"Large's key long":         change(func(f *api.File) { f.Large.User = long }),
		"Small's Seq":              change(func(f *api.File) { f.Small.Seq = topSeq + 1 }),
		"Large's Seq":              change(func(f *api.File) { f.Large.Seq = topSeq + 1 }),
		"Small's Kind":             change(func(f *api.File) { f.Small.Kind = 2 }),
		"Large's Kind":             change(func(f *api.File) { f.Large.Kind = -1 }),
		"Large's User ahead":       change(func(f *api.File) { f.Small.User, f.Large.User = "t", "r" }),
		"Large's Seq above":        change(func(f *api.File) { f.Large = put("r", 3) }),
		"Large's Kind above":       change(func(f *api.File) { f.Small.Kind, f.Large = api.Delete, put("r", 2) }),
		"nothing but its level":    {Level: 1},
		"nothing but level, sizes": {Level: 1, Num: 50, Size: 0},
	}
}
