package version_test

import (
	"slices"
	"strings"
	"testing"

	"staddle/api"
	"staddle/edit"
	"staddle/version"
)

// many are n files in each level.
func many(n int) api.Version {
	var v api.Version
	for level := range api.Levels {
		for i := range n {
			num := uint64(level*n + i + 1)
			if level == 0 {
				num = uint64(n - i)
			}
			user := string([]byte{byte(i >> 16), byte(i >> 8), byte(i)})
			v.L[level] = append(v.L[level], file(level, num, user, user+"x"))
		}
	}
	return v
}

// P14.2: an edit's Log, Next and Last make nothing of files.
func TestNumbersAlone(t *testing.T) {
	makes(t, "nothing", some(), api.Edit{}, some())
	makes(t, "numbers", some(), api.Edit{Log: topNum, Next: 1, Last: topSeq}, some())
	makes(t, "nothing of no files", api.Version{}, api.Edit{Dels: []api.Gone{}, Adds: []api.File{}}, api.Version{})
}

// P14.2: each file can be taken away, the others stay in their places; all can.
func TestTakenAway(t *testing.T) {
	var all []api.Gone
	for level, l := range some().L {
		for i, f := range l {
			want := some()
			want.L[level] = slices.Delete(want.L[level], i, i+1)
			makes(t, "one", some(), dels(gone(level, f.Num)), want)
			all = append(all, gone(level, f.Num))
		}
	}
	makes(t, "all", some(), dels(all...), api.Version{})
	slices.Reverse(all)
	makes(t, "all, from behind", some(), dels(all...), api.Version{})
}

// P14.2: ErrVersionGone: no file has the number, or one of another level, or it is taken away already.
func TestGone(t *testing.T) {
	for level := range api.Levels {
		refuses(t, "of no files", api.Version{}, dels(gone(level, 1)), api.ErrVersionGone)
		refuses(t, "no such number", some(), dels(gone(level, 99)), api.ErrVersionGone)
		for at, l := range some().L {
			for _, f := range l {
				if at != level {
					refuses(t, "in another level alone", some(), dels(gone(level, f.Num)), api.ErrVersionGone)
				}
				refuses(t, "twice", some(), dels(gone(at, f.Num), gone(at, f.Num)), api.ErrVersionGone)
				refuses(t, "the second one", some(), dels(gone(at, f.Num), gone(level, 98)), api.ErrVersionGone)
			}
		}
	}
	refuses(t, "twice, and another one between", some(), dels(gone(0, 30), gone(0, 20), gone(0, 30)), api.ErrVersionGone)
	refuses(t, "one that is added in the same edit", some(), api.Edit{Dels: []api.Gone{gone(1, 50)}, Adds: []api.File{file(1, 50, "x", "y")}}, api.ErrVersionGone)
	refuses(t, "one that is added in the same edit, and there in another level", some(), api.Edit{Dels: []api.Gone{gone(2, 3)}, Adds: []api.File{file(2, 3, "x", "y")}}, api.ErrVersionGone)
}

// P14.2: ErrVersionSame: a file of any level has the number, or one that was added ahead of it.
func TestSame(t *testing.T) {
	for level := range api.Levels {
		for _, l := range some().L {
			for _, f := range l {
				refuses(t, "it is there", some(), adds(file(level, f.Num, "r", "r")), api.ErrVersionSame)
				refuses(t, "the second one", some(), adds(file(level, 99, "r", "r"), file(level, f.Num, "s", "s")), api.ErrVersionSame)
			}
		}
		for other := range api.Levels {
			refuses(t, "added twice", some(), adds(file(level, 99, "r", "r"), file(other, 99, "s", "s")), api.ErrVersionSame)
			refuses(t, "added twice to nothing", api.Version{}, adds(file(level, 99, "r", "r"), file(other, 99, "s", "s")), api.ErrVersionSame)
			refuses(t, "added twice, one between", api.Version{}, adds(file(level, 99, "r", "r"), file(2, 98, "t", "t"), file(other, 99, "s", "s")), api.ErrVersionSame)
		}
	}
	back := api.Edit{Dels: []api.Gone{gone(1, 3)}, Adds: []api.File{file(1, 3, "b", "d"), file(0, 3, "b", "d")}}
	refuses(t, "taken away, and added twice", some(), back, api.ErrVersionSame)
}

// P14.2: a number that is taken away may be added in the same edit, in any level, with any users.
func TestAddedAgain(t *testing.T) {
	for from, l := range some().L {
		for i, f := range l {
			makes(t, "as it was", some(), api.Edit{Dels: []api.Gone{gone(from, f.Num)}, Adds: []api.File{f}}, some())
			for to := 1; to < api.Levels; to++ {
				want := some()
				want.L[from] = slices.Delete(want.L[from], i, i+1)
				g := file(to, f.Num, "u", "v")
				end := len(want.L[to])
				if to == 3 {
					end = 0
				}
				want.L[to] = slices.Insert(want.L[to], end, g)
				makes(t, "moved", some(), api.Edit{Dels: []api.Gone{gone(from, f.Num)}, Adds: []api.File{g}}, want)
			}
		}
	}
	x := api.Edit{Dels: []api.Gone{gone(1, 25)}, Adds: []api.File{file(1, 60, "e", "f"), file(1, 25, "g", "k"), file(1, 61, "l", "l")}}
	makes(t, "others in its room", some(), x, func() api.Version {
		want := some()
		want.L[1] = []api.File{want.L[1][0], x.Adds[0], x.Adds[1], x.Adds[2], want.L[1][2]}
		return want
	}())
}

// P14.2: ErrVersionOver: a file of the level has a user that the one that is added has, at its end or within.
func TestOver(t *testing.T) {
	for level := 1; level < api.Levels; level++ {
		v := stand(file(level, 1, "d", "f"), file(level, 2, "m", "m"), file(level, 3, "r", "t"))
		for _, u := range [][2]string{
			{"d", "f"}, {"d", "d"}, {"f", "f"}, {"e", "e"}, {"e", "ee"}, {"a", "d"}, {"", "d"}, {"c", "e"}, {"f", "g"}, {"e", "g"}, {"d", "e"}, {"e", "f"}, {"c", "g"},
			{"m", "m"}, {"l", "m"}, {"m", "n"}, {"l", "n"}, {"g", "q"}, {"e", "p"}, {"e", "s"}, {"f", "r"}, {"g", "r"}, {"a", "z"},
			{"r", "r"}, {"s", "s"}, {"t", "t"}, {"t", "z"}, {"q", "r"}, {"s", "\xff"}, {"d\x00", "d\x00"},
		} {
			refuses(t, u[0]+" to "+u[1], v, adds(file(level, 9, u[0], u[1])), api.ErrVersionOver)
			for other := range api.Levels {
				if other != level {
					want := copied(v)
					f := file(other, 9, u[0], u[1])
					want.L[other] = append(want.L[other], f)
					makes(t, "another level", v, adds(f), want)
				}
			}
		}
		for at, l := range [][][2]string{
			{{"", "c"}, {"a", "c\xff"}, {"c", "c"}},
			{{"g", "l"}, {"f\x00", "l\xff"}, {"fa", "fa"}},
			{{"n", "q"}, {"m\x00", "q\xff"}, {"mm", "mm"}},
			{{"u", "z"}, {"t\x00", "\xff"}, {"tt", "tt"}},
		} {
			for _, u := range l {
				f := file(level, 9, u[0], u[1])
				want := copied(v)
				want.L[level] = slices.Insert(want.L[level], at, f)
				makes(t, u[0]+" to "+u[1], v, adds(f), want)
			}
		}
	}
}

// P14.2: it is users that files have, not keys: the number at which a file ends does not make room.
func TestOverOfUsers(t *testing.T) {
	f, g := file(1, 1, "a", "c"), file(1, 2, "c", "d")
	f.Large.Seq, g.Small.Seq = 9, 8
	refuses(t, "c 9 and c 8", stand(f), adds(g), api.ErrVersionOver)
	refuses(t, "c 8 and c 9", stand(g), adds(f), api.ErrVersionOver)
}

// P14.2: files that are added ahead count, too; and those that are taken away do not.
func TestOverWithinAnEdit(t *testing.T) {
	refuses(t, "both added", api.Version{}, adds(file(2, 1, "a", "c"), file(2, 2, "c", "d")), api.ErrVersionOver)
	refuses(t, "both added, the other first", api.Version{}, adds(file(2, 2, "c", "d"), file(2, 1, "a", "c")), api.ErrVersionOver)
	refuses(t, "the first and the third", api.Version{}, adds(file(2, 1, "a", "c"), file(2, 2, "x", "y"), file(2, 3, "b", "b")), api.ErrVersionOver)
	v := stand(file(2, 1, "a", "c"), file(2, 3, "f", "g"))
	makes(t, "in the room of one", v, api.Edit{Dels: []api.Gone{gone(2, 1)}, Adds: []api.File{file(2, 2, "b", "e")}}, stand(file(2, 2, "b", "e"), file(2, 3, "f", "g")))
	refuses(t, "the other one is there", v, api.Edit{Dels: []api.Gone{gone(2, 1)}, Adds: []api.File{file(2, 2, "b", "f")}}, api.ErrVersionOver)
	makes(t, "hard by, from behind", api.Version{}, adds(file(2, 3, "c", "d"), file(2, 2, "b", "bb"), file(2, 1, "a", "a")), stand(file(2, 1, "a", "a"), file(2, 2, "b", "bb"), file(2, 3, "c", "d")))
}

// P14.2: level 0's files may lie over one another; a file's place there is by its number, falling.
func TestPlaceInLevel0(t *testing.T) {
	for _, u := range [][2]string{{"a", "z"}, {"b", "b"}, {"", ""}, {"m", "p"}} {
		for num, at := range map[uint64]int{topNum: 0, 31: 0, 29: 1, 21: 1, 19: 2, 11: 2, 9: 3, 5: 3} {
			f := file(0, num, u[0], u[1])
			want := some()
			want.L[0] = slices.Insert(want.L[0], at, f)
			makes(t, "a place", some(), adds(f), want)
		}
	}
	f, g, h := file(0, 1, "c", "d"), file(0, 2, "b", "e"), file(0, 3, "a", "f")
	for _, x := range []api.Edit{adds(f, g, h), adds(f, h, g), adds(g, f, h), adds(g, h, f), adds(h, f, g), adds(h, g, f)} {
		makes(t, "whatever the order", api.Version{}, x, stand(h, g, f))
	}
}

// P14.2: in another level a file's place is by its users, whatever its number is.
func TestPlaceInOtherLevels(t *testing.T) {
	for level := 1; level < api.Levels; level++ {
		for _, n := range [][3]uint64{{1, 2, 3}, {3, 2, 1}, {2, 3, 1}, {2, 1, 3}} {
			f, g, h := file(level, n[0], "", "b"), file(level, n[1], "b\x00", "\x7f"), file(level, n[2], "\x80", "\xff")
			for _, x := range []api.Edit{adds(f, g, h), adds(f, h, g), adds(g, f, h), adds(g, h, f), adds(h, f, g), adds(h, g, f)} {
				makes(t, "whatever the order", api.Version{}, x, stand(f, g, h))
			}
		}
	}
}

// P14.2: edit.Check's error of x, behind ErrVersionForm and ahead of all else.
func TestEditsThatMayNotBe(t *testing.T) {
	manyGone := slices.Repeat([]api.Gone{gone(3, 99)}, 20001)
	manyAdded := slices.Repeat([]api.File{file(1, 3, "a", "z")}, 101)
	for what, c := range map[string]struct {
		x    api.Edit
		want api.Errno
	}{
		"many gone":  {dels(manyGone...), api.ErrEditMany},
		"many added": {adds(manyAdded...), api.ErrEditMany},
		"Log":        {api.Edit{Log: topNum + 1, Dels: manyGone[:1]}, api.ErrEditFile},
		"Next":       {api.Edit{Next: topNum + 1, Adds: manyAdded[:1]}, api.ErrEditFile},
		"Last":       {api.Edit{Last: topSeq + 1, Dels: manyGone[:1], Adds: manyAdded[:1]}, api.ErrKeySeq},
		"a level":    {dels(gone(3, 99), gone(4, 1)), api.ErrEditLevel},
		"level -1":   {dels(gone(-1, 3)), api.ErrEditLevel},
		"a number":   {dels(gone(3, 99), gone(1, 0)), api.ErrEditFile},
		"Adds level": {api.Edit{Dels: manyGone[:1], Adds: []api.File{file(1, 3, "a", "z"), file(4, 3, "a", "z")}}, api.ErrEditLevel},
	} {
		refuses(t, what, some(), c.x, c.want)
		refuses(t, what, api.Version{}, c.x, c.want)
		refuses(t, what+" and files that may not be together", levels([]api.File{{}}), c.x, api.ErrVersionForm)
	}
	for what, f := range wrongFiles() {
		for _, x := range []api.Edit{adds(f), adds(file(1, 3, "b", "d"), f), {Dels: manyGone[:1], Adds: []api.File{f}}} {
			refuses(t, what, some(), x, edit.Check(adds(f)))
		}
	}
	makes(t, "20000 gone, 100 added are not too many", many(5000), func() api.Edit {
		x := api.Edit{}
		for level, l := range many(5000).L {
			for _, f := range l {
				x.Dels = append(x.Dels, gone(level, f.Num))
			}
		}
		few := many(25)
		x.Adds = slices.Concat(few.L[:]...)
		return x
	}(), many(25))
}

// P14.2, R2: which error comes first of several.
func TestFirstError(t *testing.T) {
	none, twice, over := gone(1, 99), file(1, 25, "r", "s"), file(1, 70, "c", "c")
	fine, both := file(1, 71, "x", "x"), file(1, 25, "c", "c")
	with := func(g []api.Gone, l ...api.File) api.Edit { return api.Edit{Dels: g, Adds: l} }
	for what, c := range map[string]struct {
		x    api.Edit
		want api.Errno
	}{
		"gone ahead of the same":                    {with([]api.Gone{none}, twice), api.ErrVersionGone},
		"gone ahead of over":                        {with([]api.Gone{none}, over), api.ErrVersionGone},
		"gone behind others, ahead of both":         {with([]api.Gone{gone(0, 20), gone(1, 3), none}, both, over), api.ErrVersionGone},
		"the same ahead of over, of one file":       {with(nil, both), api.ErrVersionSame},
		"the same, then over":                       {with(nil, twice, over), api.ErrVersionSame},
		"over, then the same":                       {with(nil, over, twice), api.ErrVersionOver},
		"fine, then over, then the same":            {with(nil, fine, over, twice), api.ErrVersionOver},
		"fine, then the same one, then over":        {with(nil, fine, fine, over), api.ErrVersionSame},
		"over one that was added, then the same":    {with(nil, fine, file(1, 72, "w", "y"), fine), api.ErrVersionOver},
		"over one that is taken away, and the same": {with([]api.Gone{gone(1, 3)}, over, twice), api.ErrVersionSame},
		"the same as one that is taken away, over":  {with([]api.Gone{gone(1, 25)}, both), api.ErrVersionOver},
		"level 0: the same, never over":             {with(nil, file(0, 20, "m", "p")), api.ErrVersionSame},
	} {
		refuses(t, what, some(), c.x, c.want)
		bad := some()
		bad.L[0][0].Size = 0
		refuses(t, what+" of files that may not be together", bad, c.x, api.ErrVersionForm)
		c.x.Log = topNum + 1
		refuses(t, what+", and a Log that may not be", some(), c.x, api.ErrEditFile)
		refuses(t, what+", and both", bad, c.x, api.ErrVersionForm)
	}
}

// P14.2: users at their edges.
func TestEdgesOfUsers(t *testing.T) {
	top := strings.Repeat("\xff", 64)
	whole := file(3, 1, "", top)
	makes(t, "all users", api.Version{}, adds(whole), stand(whole))
	for _, user := range []string{"", "a", top} {
		refuses(t, "beside all users", stand(whole), adds(file(3, 2, user, user)), api.ErrVersionOver)
	}
	makes(t, "the two ends", stand(file(3, 1, top, top)), adds(file(3, 2, "", top[:63])), stand(file(3, 2, "", top[:63]), file(3, 1, top, top)))
}

// P14.4: what is taken away and laid again is as it was, in one edit or in two, one file or all of them.
func TestLaidAgain(t *testing.T) {
	all := api.Edit{}
	for level, l := range some().L {
		for _, f := range l {
			without, err := version.Apply(some(), dels(gone(level, f.Num)))
			if err != api.OK {
				t.Fatal(err)
			}
			makes(t, "one", without, adds(f), some())
			all.Dels = append(all.Dels, gone(level, f.Num))
			all.Adds = append(all.Adds, f)
		}
	}
	makes(t, "all", some(), all, some())
	slices.Reverse(all.Adds)
	makes(t, "all, from behind", some(), all, some())
	makes(t, "all, of nothing", api.Version{}, api.Edit{Adds: all.Adds}, some())
}
