package version_test

import (
	"math"
	"strings"
	"testing"

	"staddle/api"
	"staddle/edit"
	"staddle/version"
)

// together tells a fault if files may not be together.
func together(t *testing.T, what string, v api.Version) {
	t.Helper()
	if err := version.Check(v); err != api.OK {
		t.Errorf("%s: %d", what, err)
	}
	makes(t, what, v, api.Edit{}, v)
}

// apart tells a fault if files may be together; no edit is applied to them then, whatever else is wrong.
func apart(t *testing.T, what string, v api.Version) {
	t.Helper()
	if err := version.Check(v); err != api.ErrVersionForm {
		t.Errorf("%s: %d", what, err)
	}
	for _, x := range []api.Edit{{}, dels(gone(1, 3)), dels(gone(9, 0)), adds(file(2, 77, "x", "y")), adds(file(-1, 0, "", "")), {Last: topSeq + 1}} {
		refuses(t, what, v, x, api.ErrVersionForm)
	}
}

// P14.1: no files may be together, and files of all levels.
func TestTogether(t *testing.T) {
	together(t, "no files", api.Version{})
	together(t, "lists without elements", levels([]api.File{}, nil, []api.File{}, []api.File{}))
	together(t, "some", some())
	for level := range api.Levels {
		together(t, "one file", stand(file(level, 1, "a", "b")))
		together(t, "the greatest number and size", stand(api.File{Level: level, Num: topNum, Size: topSize, Small: put("", topSeq), Large: put(strings.Repeat("\xff", 64), 0)}))
	}
}

// P14.1: level 0's numbers fall, whatever its users are.
func TestLevel0Falls(t *testing.T) {
	users := [][2]string{{"a", "c"}, {"a", "c"}, {"d", "e"}, {"", "b"}}
	for _, first := range users {
		for _, second := range users {
			at := func(m, n uint64) api.Version {
				return stand(file(0, m, first[0], first[1]), file(0, n, second[0], second[1]))
			}
			together(t, "falling", at(8, 7))
			together(t, "falling far", at(topNum, 1))
			apart(t, "the same", at(8, 8))
			apart(t, "rising", at(7, 8))
		}
	}
	together(t, "three", stand(file(0, 9, "a", "b"), file(0, 8, "a", "b"), file(0, 1, "a", "b")))
	apart(t, "the last two rise", stand(file(0, 9, "a", "b"), file(0, 1, "a", "b"), file(0, 8, "a", "b")))
	apart(t, "the first two rise", stand(file(0, 8, "a", "b"), file(0, 9, "a", "b"), file(0, 1, "a", "b")))
	apart(t, "the last is the first", stand(file(0, 9, "a", "b"), file(0, 8, "a", "b"), file(0, 9, "a", "b")))
}

// P14.1: in the other levels each file's Large's User is ahead of the next one's Small's, whatever their numbers are.
func TestOtherLevelsRise(t *testing.T) {
	for level := 1; level < api.Levels; level++ {
		for _, n := range [][2]uint64{{1, 2}, {2, 1}, {1, topNum}} {
			at := func(a, b, c, d string) api.Version {
				return stand(file(level, n[0], a, b), file(level, n[1], c, d))
			}
			together(t, "far from one another", at("a", "c", "x", "z"))
			together(t, "hard by", at("a", "c", "c\x00", "c\x00"))
			together(t, "of one user each", at("", "", "\x00", "\x00"))
			together(t, "byte by byte", at("a", "\x7f", "\x80", "\xff"))
			together(t, "capitals ahead", at("B", "Z", "a", "b"))
			apart(t, "they touch", at("a", "c", "c", "d"))
			apart(t, "the same users", at("a", "c", "a", "c"))
			apart(t, "the same one user", at("a", "a", "a", "a"))
			apart(t, "one within", at("a", "z", "c", "d"))
			apart(t, "one around", at("c", "d", "a", "z"))
			apart(t, "one over the other's end", at("a", "c", "b", "d"))
			apart(t, "in the wrong order", at("x", "z", "a", "c"))
			apart(t, "in the wrong order, and they touch", at("c", "d", "a", "c"))
			apart(t, "ahead by one byte", at("a", "c\x00", "c", "d"))
		}
		last := []api.File{file(level, 1, "a", "b"), file(level, 2, "c", "d"), file(level, 3, "d", "e")}
		apart(t, "the last two touch", stand(last...))
		together(t, "the first two", stand(last[:2]...))
	}
}

// P14.1: it is users that are held against one another, not keys: one user's newer and older keys are not in two files.
func TestOneUserInTwoFiles(t *testing.T) {
	f, g := file(1, 1, "a", "c"), file(1, 2, "c", "d")
	f.Large.Seq, g.Small.Seq = 9, 8
	apart(t, "c 9 and c 8", stand(f, g))
}

// P14.1: no number comes twice, in one level or in two.
func TestSameNumber(t *testing.T) {
	for i := range api.Levels {
		for j := range api.Levels {
			f, g := file(i, 5, "a", "b"), file(j, 5, "x", "y")
			apart(t, "one number", stand(f, g))
			g.Num = 4
			together(t, "two numbers", stand(f, g))
		}
	}
	v := some()
	v.L[3][0].Num = v.L[0][1].Num
	apart(t, "one of many", v)
}

// P14.1: a file has the level that it stands in.
func TestLevelOfAFile(t *testing.T) {
	for at := range api.Levels {
		for _, level := range []int{-1, 0, 1, 2, 3, 4, math.MinInt, math.MaxInt, at + 1<<32} {
			var v api.Version
			v.L[at] = []api.File{file(level, 1, "a", "b")}
			if level == at {
				together(t, "its own level", v)
			} else {
				apart(t, "another level", v)
			}
		}
	}
	v := some()
	v.L[2][1].Level = 1
	apart(t, "the second one", v)
}

// P14.1: each file may be in an edit.
func TestFilesOfNoEdit(t *testing.T) {
	for what, f := range wrongFiles() {
		if edit.Check(adds(f)) == api.OK {
			t.Errorf("%s: it may be in an edit", what)
		}
		for level := range api.Levels {
			f.Level = level
			apart(t, what, stand(f))
			v := some()
			v.L[level] = append(v.L[level], f)
			apart(t, what+" behind others", v)
			v = some()
			v.L[level] = append([]api.File{f}, v.L[level]...)
			apart(t, what+" ahead of others", v)
		}
	}
}

// P14.1: there is no bound to how many files there are: edit's is that of one edit.
func TestManyFiles(t *testing.T) {
	v := many(3000)
	together(t, "many", v)
	v.L[2][2999].Num = v.L[0][0].Num
	apart(t, "many, and one number twice", v)
}
