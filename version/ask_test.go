package version_test

import (
	"math"
	"slices"
	"strings"
	"testing"

	"staddle/api"
	"staddle/version"
)

// tells tells a fault if files are not those of these numbers, in this order.
func tells(t *testing.T, what string, got []api.File, want ...uint64) {
	t.Helper()
	if !slices.Equal(nums(got), want) {
		t.Errorf("%s: %v; want %v", what, nums(got), want)
	}
}

// faultyVersion are files that may not be together, in each way: an order that is none, users that lie over one another, wrong levels, numbers that come twice, a file without users.
func faultyVersion() api.Version {
	return levels(
		[]api.File{file(3, 1, "m", "p"), file(0, 7, "a", "c"), file(-9, 7, "c", "n")},
		[]api.File{file(1, 9, "x", "z"), file(1, 0, "b", "d"), file(0, 2, "z", "a"), file(1, math.MaxUint64, "a", "y")},
		nil,
		[]api.File{file(2, 7, "c", "c"), {}, file(3, 5, strings.Repeat("c", 70), strings.Repeat("d", 100))})
}

// P14.3: Over, of files that may be together: both ends count, of the file and of what is asked.
func TestOverOfALevel(t *testing.T) {
	v := stand(file(1, 3, "b", "d"), file(1, 4, "f", "h"), file(1, 1, "m", "m"))
	for _, c := range []struct {
		from, to string
		want     []uint64
	}{
		{"", "\xff", []uint64{3, 4, 1}}, {"a", "z", []uint64{3, 4, 1}}, {"d", "m", []uint64{3, 4, 1}}, {"d", "l", []uint64{3, 4}},
		{"b", "b", []uint64{3}}, {"c", "c", []uint64{3}}, {"d", "d", []uint64{3}}, {"b", "d", []uint64{3}}, {"a", "e", []uint64{3}},
		{"", "b", []uint64{3}}, {"d", "e", []uint64{3}}, {"d", "f", []uint64{3, 4}}, {"e", "f", []uint64{4}}, {"g", "m", []uint64{4, 1}},
		{"m", "m", []uint64{1}}, {"m", "z", []uint64{1}}, {"h\x00", "m", []uint64{1}},
		{"", "", nil}, {"", "a", nil}, {"", "a\xff", nil}, {"d\x00", "e\xff", nil}, {"e", "e", nil}, {"h\x00", "l", nil}, {"m\x00", "\xff", nil},
		{"\xff", "", nil}, {"d", "b", nil}, {"z", "a", nil}, {"c", "bb", nil}, {"b", "", nil}, {"m\x00", "m", nil},
	} {
		tells(t, c.from+" to "+c.to, version.Over(v, 1, c.from, c.to), c.want...)
		for _, level := range []int{0, 2, 3, -1, 4} {
			tells(t, "another level", version.Over(v, level, c.from, c.to))
		}
	}
}

// P14.3: Over of level 0, where files lie over one another, in the order in which they stand.
func TestOverOfLevel0(t *testing.T) {
	tells(t, "all", version.Over(some(), 0, "a", "z"), 30, 20, 10)
	tells(t, "m to p", version.Over(some(), 0, "n", "o"), 30, 20, 10)
	tells(t, "b", version.Over(some(), 0, "b", "b"), 30, 10)
	tells(t, "q", version.Over(some(), 0, "q", "r"), 30, 10)
	tells(t, "p\x00", version.Over(some(), 0, "p\x00", "p\x01"), 30, 10)
	tells(t, "a", version.Over(some(), 0, "", "a"), 30)
	tells(t, "none", version.Over(some(), 0, "z\x00", "\xff"))
}

// P14.3: of no level there is nothing.
func TestNoLevel(t *testing.T) {
	for _, v := range []api.Version{{}, some(), faultyVersion()} {
		for _, level := range []int{-1, 4, 5, -4, 256, 1 << 32, -1 << 32, 1<<32 + 1, math.MinInt, math.MaxInt} {
			tells(t, "no level", version.Over(v, level, "", "\xff"))
			if n := version.Size(v, level); n != 0 {
				t.Errorf("level %d: %d", level, n)
			}
		}
	}
	for level := range api.Levels {
		tells(t, "no files", version.Over(api.Version{}, level, "", "\xff"))
		if n := version.Size(api.Version{}, level); n != 0 {
			t.Errorf("no files of level %d: %d", level, n)
		}
	}
}

// P14.3: Over of files that may not be together: as they stand, the level is where they stand, and a file whose Large's User is ahead of Small's has no user.
func TestOverOfFaulty(t *testing.T) {
	v := faultyVersion()
	tells(t, "level 0", version.Over(v, 0, "", "\xff"), 1, 7, 7)
	tells(t, "level 0, c", version.Over(v, 0, "c", "c"), 7, 7)
	tells(t, "level 0, m to n", version.Over(v, 0, "m", "n"), 1, 7)
	tells(t, "level 1", version.Over(v, 1, "", "\xff"), 9, 0, math.MaxUint64)
	tells(t, "level 1, from z to z", version.Over(v, 1, "z", "z"), 9)
	tells(t, "level 1, from a to a", version.Over(v, 1, "a", "a"), math.MaxUint64)
	tells(t, "level 1, behind to", version.Over(v, 1, "z", "a"))
	tells(t, "level 2", version.Over(v, 2, "", "\xff"))
	tells(t, "level 3, the text of no bytes", version.Over(v, 3, "", ""), 0)
	tells(t, "level 3", version.Over(v, 3, "", "\xff"), 7, 0, 5)
	tells(t, "level 3, long", version.Over(v, 3, "cd", "z"), 5)
	tells(t, "level 3, long ones asked", version.Over(v, 3, strings.Repeat("d", 99), strings.Repeat("d", 200)), 5)
	tells(t, "level 3, behind it", version.Over(v, 3, strings.Repeat("d", 101), strings.Repeat("d", 200)))
	back := stand(file(2, 1, "z", "a"))
	for _, u := range [][2]string{{"a", "z"}, {"", "\xff"}, {"m", "m"}, {"a", "a"}, {"z", "z"}, {"z", "a"}} {
		tells(t, "no users", version.Over(back, 2, u[0], u[1]))
		tells(t, "no users", version.Ask(back, u[0]))
	}
}

// P14.3: it is users that Over and Ask look at: of one user, Large's number may be above Small's.
func TestUsersAlone(t *testing.T) {
	f := file(1, 8, "k", "k")
	f.Small, f.Large = put("k", 1), put("k", 9)
	v := stand(f)
	if version.Check(v) != api.ErrVersionForm {
		t.Error("Large is ahead of Small")
	}
	tells(t, "Over", version.Over(v, 1, "k", "k"), 8)
	tells(t, "Ask", version.Ask(v, "k"), 8)
}

// P14.3: Ask: level by level, in the order in which files stand.
func TestAsk(t *testing.T) {
	for user, want := range map[string][]uint64{
		"": {4}, "a": {30, 4}, "b": {30, 10, 3, 4}, "c": {30, 10, 3, 4}, "c\x00": {30, 10, 3, 2}, "d": {30, 10, 3, 2}, "d\x00": {30, 10, 2}, "g": {30, 10, 25, 2},
		"k": {30, 10, 2}, "k\x00": {30, 10}, "m": {30, 20, 10, 1}, "m\x00": {30, 20, 10}, "p": {30, 20, 10}, "q": {30, 10}, "z": {30}, "z\x00": nil, "\xfd": nil,
		"\xfe": {40}, "\xff": {40}, "\xff\xff": {40}, "\xff\xff\x00": nil,
	} {
		tells(t, user, version.Ask(some(), user), want...)
		tells(t, "of no files", version.Ask(api.Version{}, user))
	}
	v := faultyVersion()
	for user, want := range map[string][]uint64{
		"": {0}, "a": {7, math.MaxUint64}, "c": {7, 7, 0, math.MaxUint64, 7}, "m": {1, 7, math.MaxUint64}, "y": {9, math.MaxUint64}, "z": {9}, "d": {7, 0, math.MaxUint64, 5}, "\xff": nil,
	} {
		tells(t, user, version.Ask(v, user), want...)
	}
}

// P14.3: what Over and Ask answer are the files, whole.
func TestWholeFiles(t *testing.T) {
	v := faultyVersion()
	for level, l := range v.L {
		var want []api.File
		for _, f := range l {
			if f.Num != 2 {
				want = append(want, f)
			}
		}
		if got := version.Over(v, level, "", "\xff"); !slices.Equal(got, want) {
			t.Errorf("level %d: %+v", level, got)
		}
	}
	f := api.File{Level: 77, Num: 5, Size: -6, Small: api.IKey{User: "a", Seq: math.MaxUint64, Kind: -7}, Large: api.IKey{User: "b", Kind: 9}}
	if got := version.Ask(levels(nil, nil, []api.File{f}), "b"); !slices.Equal(got, []api.File{f}) {
		t.Errorf("%+v", got)
	}
}

// P14.3: Size: the sum of a level's Sizes, as Go's int has it.
func TestSize(t *testing.T) {
	sized := func(sizes ...int) []api.File {
		var l []api.File
		for i, n := range sizes {
			f := file(0, uint64(i), "z", "a")
			f.Size = n
			l = append(l, f)
		}
		return l
	}
	v := levels(sized(10, 20, 12), sized(math.MaxInt, 1), sized(math.MinInt, -1, 3), sized(-5))
	for level, want := range []int{42, math.MinInt, math.MinInt + 2, -5} {
		if n := version.Size(v, level); n != want {
			t.Errorf("level %d: %d; want %d", level, n, want)
		}
	}
	v = levels(sized(math.MaxInt, math.MaxInt, math.MaxInt), sized(math.MinInt, math.MinInt), sized(topSize, topSize), sized(0, 0, 7))
	for level, want := range []int{math.MaxInt - 2, 0, 1<<32 - 2, 7} {
		if n := version.Size(v, level); n != want {
			t.Errorf("level %d: %d; want %d", level, n, want)
		}
	}
	for level, want := range []int{30, 30, 20, 10} {
		if n := version.Size(some(), level); n != want {
			t.Errorf("level %d: %d; want %d", level, n, want)
		}
	}
}

// P14.3: Nums: all numbers, rising, one that comes twice twice.
func TestNums(t *testing.T) {
	for _, c := range []struct {
		v    api.Version
		want []uint64
	}{
		{api.Version{}, nil},
		{levels([]api.File{}, []api.File{}), nil},
		{some(), []uint64{1, 2, 3, 4, 10, 20, 25, 30, 40}},
		{faultyVersion(), []uint64{0, 0, 1, 2, 5, 7, 7, 7, 9, math.MaxUint64}},
		{levels(nil, nil, nil, []api.File{{}, {}, {}}), []uint64{0, 0, 0}},
		{stand(file(3, 1<<63, "", ""), file(2, 1<<63-1, "", ""), file(1, math.MaxUint64, "", "")), []uint64{1<<63 - 1, 1 << 63, math.MaxUint64}},
	} {
		if got := version.Nums(c.v); !slices.Equal(got, c.want) {
			t.Errorf("%v; want %v", got, c.want)
		}
	}
}
