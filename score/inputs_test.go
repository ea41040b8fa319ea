package score_test

import (
	"math"
	"slices"
	"strings"
	"testing"

	"staddle/api"
	"staddle/score"
)

// list makes telling numbers short.
func list(l ...uint64) []uint64 { return l }

// turned are files of level 0 in each order that has the last one last.
func turned(l []api.File) [][]api.File {
	if len(l) < 2 {
		return [][]api.File{l}
	}
	var out [][]api.File
	for i := range l[:len(l)-1] {
		rest := slices.Delete(slices.Clone(l), i, i+1)
		for _, r := range turned(rest) {
			out = append(out, append([]api.File{l[i]}, r...))
		}
	}
	return out
}

// inOrder are the numbers of the files that are wanted, in the order in which the files stand.
func inOrder(l []api.File, want []uint64) []uint64 {
	var out []uint64
	for _, n := range nums(l) {
		if slices.Contains(want, n) {
			out = append(out, n)
		}
	}
	return out
}

// P18.4: of level 0, its last file and all to which that leads, whatever the order of the others is.
func TestLevel0(t *testing.T) {
	f := func(num uint64, from, to string) api.File { return file(0, num, from, to) }
	for what, c := range map[string]struct {
		files []api.File
		want  []uint64
	}{
		"one":                      {[]api.File{f(1, "b", "d")}, list(1)},
		"one of one user":          {[]api.File{f(1, "b", "b")}, list(1)},
		"one of the empty user":    {[]api.File{f(1, "", "")}, list(1)},
		"no users are shared":      {[]api.File{f(1, "a", "b"), f(2, "e", "f"), f(3, "c", "d")}, list(3)},
		"all share":                {[]api.File{f(1, "a", "z"), f(2, "b", "y"), f(3, "c", "x"), f(4, "d", "w")}, list(1, 2, 3, 4)},
		"a chain up":               {[]api.File{f(5, "i", "k"), f(4, "g", "i"), f(3, "e", "g"), f(2, "c", "e"), f(1, "a", "c")}, list(1, 2, 3, 4, 5)},
		"a chain down":             {[]api.File{f(5, "a", "c"), f(4, "c", "e"), f(3, "e", "g"), f(2, "g", "i"), f(1, "i", "k")}, list(1, 2, 3, 4, 5)},
		"a chain from within":      {[]api.File{f(5, "a", "c"), f(4, "c", "e"), f(3, "g", "i"), f(2, "i", "k"), f(1, "e", "g")}, list(1, 2, 3, 4, 5)},
		"a chain that is torn":     {[]api.File{f(5, "a", "b"), f(4, "c", "e"), f(3, "g", "i"), f(2, "i\x00", "k"), f(1, "e", "g")}, list(1, 3, 4)},
		"only the next one":        {[]api.File{f(4, "a", "b"), f(3, "d", "e"), f(2, "f", "g"), f(1, "b", "c")}, list(1, 4)},
		"touching above":           {[]api.File{f(2, "d", "f"), f(1, "b", "d")}, list(1, 2)},
		"touching below":           {[]api.File{f(2, "a", "b"), f(1, "b", "d")}, list(1, 2)},
		"hard by above":            {[]api.File{f(2, "d\x00", "f"), f(1, "b", "d")}, list(1)},
		"hard by below":            {[]api.File{f(2, "a", "a\xff"), f(1, "b", "d")}, list(1)},
		"of one user each":         {[]api.File{f(4, "b", "b"), f(3, "c", "c"), f(2, "a", "a"), f(1, "b", "b")}, list(1, 4)},
		"of one user, at the end":  {[]api.File{f(4, "d", "d"), f(3, "e", "e"), f(2, "b", "b"), f(1, "b", "d")}, list(1, 2, 4)},
		"of one user, within":      {[]api.File{f(3, "c", "c"), f(2, "d\x00", "d\x00"), f(1, "b", "d")}, list(1, 3)},
		"one within a wide one":    {[]api.File{f(3, "a", "z"), f(2, "b", "c"), f(1, "m", "m")}, list(1, 2, 3)},
		"beside a wide one":        {[]api.File{f(3, "a", "f"), f(2, "b", "c"), f(1, "g", "m")}, list(1)},
		"a wide one, and more":     {[]api.File{f(4, "a", "f"), f(3, "b", "c"), f(2, "f", "h"), f(1, "h", "m")}, list(1, 2, 3, 4)},
		"one that ends within":     {[]api.File{f(4, "a", "k"), f(3, "b", "c"), f(2, "l", "m"), f(1, "j", "l")}, list(1, 2, 3, 4)},
		"ahead and behind another": {[]api.File{f(3, "a", "b"), f(2, "y", "z"), f(1, "c", "x")}, list(1)},
		"beginnings":               {[]api.File{f(4, "", "a"), f(3, "aaa", "ab"), f(2, "b", "bb"), f(1, "a", "aa")}, list(1, 4)},
		"beginnings, touching":     {[]api.File{f(4, "aa", "aaa"), f(3, "", "a"), f(2, "aaaa", "b"), f(1, "a", "aa")}, list(1, 3, 4)},
		"the empty user":           {[]api.File{f(3, "", ""), f(2, "\x00", "a"), f(1, "", "")}, list(1, 3)},
		"from the empty user on":   {[]api.File{f(4, "", "\xff"), f(3, "\x00", "\x00"), f(2, "\xff\xff", "\xff\xff"), f(1, "", "")}, list(1, 3, 4)},
		"of all users":             {[]api.File{f(3, "a", "b"), f(2, "y", "z"), f(1, "", "\xff")}, list(1, 2, 3)},
		"bytes above 127":          {[]api.File{f(3, "\x7f", "\x80"), f(2, "\xfe", "\xff"), f(1, "\x80", "\xf0")}, list(1, 3)},
		"the same users thrice":    {[]api.File{f(4, "b", "c"), f(3, "b", "c"), f(2, "d", "d"), f(1, "b", "c")}, list(1, 3, 4)},
	} {
		for _, l := range turned(c.files) {
			takes(t, what, stand(l...), 0, "", inOrder(l, c.want), nil)
			takes(t, what+", from z", stand(l...), 0, "z", inOrder(l, c.want), nil)
		}
	}
}

// P18.4: it is the last file that a merge of level 0 begins with: each of those that share nothing, when it is last.
func TestLastOfLevel0(t *testing.T) {
	all := []api.File{file(0, 9, "a", "c"), file(0, 8, "e", "f"), file(0, 7, "b", "d"), file(0, 6, "x", "z"), file(0, 5, "f", "g")}
	for n, want := range [][]uint64{nil, list(9), list(8), list(9, 7), list(6), list(8, 5)} {
		takes(t, "so many files", stand(all[:n]...), 0, "", want, nil)
	}
}

// P18.4: a long chain, in which each file leads to the next one alone, as it stands and mixed.
func TestLongChain(t *testing.T) {
	const n = 20011
	user := func(i int) string { return string([]byte{byte(i >> 16), byte(i >> 8), byte(i)}) }
	chain := func(step int) []api.File {
		var l []api.File
		for i := range n {
			at := i * step % n
			l = append(l, file(0, uint64(at), user(at), user(at+1)))
		}
		return l
	}
	for _, step := range []int{1, n - 1, 77, n / 2} {
		l := chain(step)
		lower, _ := score.Inputs(stand(l...), 0, "")
		if !slices.Equal(lower, l) {
			t.Errorf("step %d: %d files", step, len(lower))
		}
		// Without one link the chain is two, of which the last file is in one.
		cut := n / 3
		parted := slices.DeleteFunc(slices.Clone(l), func(f api.File) bool { return f.Num == uint64(cut) })
		last := parted[n-2].Num
		want := slices.DeleteFunc(slices.Clone(parted), func(f api.File) bool { return (f.Num < uint64(cut)) != (last < uint64(cut)) })
		if lower, _ = score.Inputs(stand(parted...), 0, ""); !slices.Equal(lower, want) {
			t.Errorf("step %d, without %d: %d files", step, cut, len(lower))
		}
	}
}

// P18.4: of levels 1 and 2, the first file whose Small's User is behind from, and the first one behind the last.
func TestOtherLevels(t *testing.T) {
	for _, level := range []int{1, 2} {
		v := stand(file(level, 5, "b", "d"), file(level, 3, "f", "f"), file(level, 8, "fa", "fz"), file(level, 1, "m", "p"))
		for from, want := range map[string]uint64{
			"": 5, "a": 5, "a\xff": 5, "b": 3, "b\x00": 3, "c": 3, "d": 3, "e": 3, "e\xff": 3, "f": 8, "f\x00": 8, "f`": 8, "fa": 1, "fb": 1, "fz": 1, "g": 1, "l\xff\xff": 1,
			"m": 5, "m\x00": 5, "n": 5, "p": 5, "q": 5, "\xff": 5, strings.Repeat("f", 100): 1, strings.Repeat("z", 100): 5,
		} {
			takes(t, "four files", v, level, from, list(want), nil)
		}
		one := stand(file(level, 7, "k", "l"))
		for _, from := range []string{"", "a", "k", "k\x00", "l", "z"} {
			takes(t, "one file", one, level, from, list(7), nil)
		}
		empty := stand(file(level, 7, "", ""), file(level, 4, "\x00", "\x00"), file(level, 9, "\x00\x00", "\xff"))
		for from, want := range map[string]uint64{"": 4, "\x00": 9, "\x00\x00": 7, "\xff": 7} {
			takes(t, "the empty user", empty, level, from, list(want), nil)
		}
		takes(t, "the empty user alone", stand(file(level, 7, "", "z")), level, "", list(7), nil)
	}
}

// P18.4: one file of levels 1 and 2 alone, whatever others of it have its users.
func TestAloneInOtherLevels(t *testing.T) {
	for _, level := range []int{1, 2} {
		v := stand(file(level, 5, "b", "d"), file(level, 6, "b", "d"), file(level, 3, "a", "f"))
		takes(t, "lying over one another", v, level, "", list(5), nil)
		takes(t, "behind a", v, level, "a", list(5), nil)
		takes(t, "behind b", v, level, "b", list(5), nil)
	}
}

// P18.4: upper: the next level's files that have a user of lower's, from its first to its last.
func TestUpper(t *testing.T) {
	for level := range 3 {
		next := func(num uint64, from, to string) api.File { return file(level+1, num, from, to) }
		for what, c := range map[string]struct {
			upper []api.File
			want  []uint64
		}{
			"none":                  {nil, nil},
			"ahead":                 {[]api.File{next(1, "a", "b"), next(2, "c", "e\xff")}, nil},
			"behind":                {[]api.File{next(1, "j\x00", "k"), next(2, "l", "m")}, nil},
			"on both sides":         {[]api.File{next(1, "a", "b"), next(2, "l", "m")}, nil},
			"touching ahead":        {[]api.File{next(1, "a", "b"), next(2, "c", "f"), next(3, "k", "m")}, list(2)},
			"touching behind":       {[]api.File{next(1, "a", "b"), next(2, "j", "m"), next(3, "n", "o")}, list(2)},
			"within":                {[]api.File{next(1, "f\x00", "g"), next(2, "h", "h"), next(3, "i", "i\xff")}, list(1, 2, 3)},
			"of one user":           {[]api.File{next(1, "e", "e"), next(2, "f", "f"), next(3, "j", "j"), next(4, "k", "k")}, list(2, 3)},
			"one over all":          {[]api.File{next(1, "", "\xff")}, list(1)},
			"over both ends":        {[]api.File{next(9, "", "e"), next(8, "ee", "g"), next(7, "gg", "h"), next(6, "i", "z")}, list(8, 7, 6)},
			"just so":               {[]api.File{next(1, "f", "j")}, list(1)},
			"as they stand":         {[]api.File{next(9, "i", "z"), next(1, "a", "b"), next(5, "f", "f"), next(2, "", "\xff")}, list(9, 5, 2)},
			"without users":         {[]api.File{next(1, "j", "f"), next(2, "z", "a"), next(3, "g", "g")}, list(3)},
			"of other Levels":       {[]api.File{{Level: -5, Num: 4, Small: api.IKey{User: "g"}, Large: api.IKey{User: "h"}}}, list(4)},
			"more than lower leads": {[]api.File{next(1, "e", "f"), next(2, "d", "e"), next(3, "j", "k"), next(4, "k", "l")}, list(1, 3)},
		} {
			v := stand(file(level, 20, "f", "j"))
			v.L[level+1] = c.upper
			takes(t, what, v, level, "", list(20), c.want)
			v.L[(level+2)%4] = []api.File{file(0, 30, "f", "j")}
			if level != 2 {
				v.L[3] = append(v.L[3], file(3, 31, "f", "j"))
			}
			takes(t, what+", other levels", v, level, "", list(20), c.want)
		}
	}
}

// P18.4: of level 0 it is what all of lower's files have between them that upper is asked for, the room between them too.
func TestUpperOfLevel0(t *testing.T) {
	upper := []api.File{file(1, 11, "a", "a"), file(1, 12, "b", "b"), file(1, 13, "c", "c"), file(1, 14, "d", "e"), file(1, 15, "f", "f"), file(1, 16, "g", "h"), file(1, 17, "i", "k")}
	for _, c := range []struct {
		files       []api.File
		lower, want []uint64
	}{
		{[]api.File{file(0, 2, "b", "d"), file(0, 1, "d", "f")}, list(2, 1), list(12, 13, 14, 15)},
		{[]api.File{file(0, 2, "b", "d"), file(0, 1, "f", "f")}, list(1), list(15)},
		{[]api.File{file(0, 3, "e", "g"), file(0, 2, "b", "d"), file(0, 1, "d", "e")}, list(3, 2, 1), list(12, 13, 14, 15, 16)},
		{[]api.File{file(0, 3, "\x00", "g"), file(0, 2, "b", "d"), file(0, 1, "d\x00", "d\x00")}, list(3, 2, 1), list(11, 12, 13, 14, 15, 16)},
		{[]api.File{file(0, 3, "l", "m"), file(0, 2, "h", "h"), file(0, 1, "hh", "hh")}, list(1), nil},
		{[]api.File{file(0, 2, "k", "z"), file(0, 1, "j", "k")}, list(2, 1), list(17)},
	} {
		v := stand(c.files...)
		v.L[1] = upper
		takes(t, "level 0", v, 0, "", c.lower, c.want)
	}
}

// P18.4: it is users that are looked at: numbers and kinds that stand otherwise do not part files.
func TestUsersAlone(t *testing.T) {
	f, g := file(0, 2, "b", "d"), file(0, 1, "d", "f")
	f.Large, g.Small = api.IKey{User: "d", Seq: 9}, api.IKey{User: "d", Seq: 8, Kind: api.Put}
	h := file(1, 3, "f", "f")
	h.Small, h.Large = api.IKey{User: "f", Seq: 1}, api.IKey{User: "f", Seq: 99, Kind: 7}
	takes(t, "d 9, d 8", stand(f, g, h), 0, "", list(2, 1), list(3))
}

// P18.4: nothing of a level below 0 or above 2, or without files.
func TestNothing(t *testing.T) {
	full := stand(file(0, 1, "a", "z"), file(1, 2, "a", "z"), file(2, 3, "a", "z"), file(3, 4, "a", "z"))
	for _, level := range []int{-1, -2, -3, -4, 3, 4, 5, 256, 1 << 32, 1<<32 + 1, -1 << 32, math.MinInt, math.MaxInt} {
		takes(t, "no level", full, level, "", nil, nil)
		takes(t, "no files", api.Version{}, level, "", nil, nil)
	}
	for level := range 3 {
		takes(t, "a level", full, level, "", list(uint64(level+1)), list(uint64(level+2)))
		takes(t, "no files", api.Version{}, level, "", nil, nil)
		takes(t, "lists without files", levels([]api.File{}, []api.File{}, []api.File{}, []api.File{}), level, "a", nil, nil)
		v := full
		v.L[level] = nil
		takes(t, "files in the others", v, level, "", nil, nil)
	}
}

// P18.4, R1: files that may not be together: as they stand, wherever they say that they are; one without users leads to none, and none leads to it.
func TestFaultyFiles(t *testing.T) {
	back := func(num uint64) api.File { return file(0, num, "z", "a") }
	takes(t, "one without users", stand(back(1)), 0, "", list(1), nil)
	takes(t, "the last one without users", stand(file(0, 2, "a", "z"), back(3), back(1)), 0, "", list(1), nil)
	takes(t, "others without users", stand(back(5), file(0, 2, "a", "c"), back(4), file(0, 3, "z", "z"), file(0, 1, "c", "z")), 0, "", list(2, 3, 1), nil)
	v := stand(back(1), file(1, 2, "a", "z"), file(1, 3, "z", "z"), file(1, 4, "", "\xff"))
	takes(t, "what is over one without users", v, 0, "", list(1), nil)
	v = levels(nil, []api.File{back(1), file(1, 2, "y", "b")}, []api.File{file(2, 3, "", "\xff")})
	takes(t, "one without users of level 1", v, 1, "", list(1), nil)
	takes(t, "one without users of level 1, from y", v, 1, "y", list(1), nil)
	takes(t, "one without users of level 1, from z", v, 1, "z", list(1), nil)
	v = levels(nil, nil, []api.File{file(9, 5, "x", "z"), file(-1, 6, "b", "y"), file(2, 6, "c", "c")}, []api.File{file(0, 7, "y", "y")})
	takes(t, "an order that is none", v, 2, "", list(5), list(7))
	takes(t, "an order that is none, from b", v, 2, "b", list(5), list(7))
	takes(t, "an order that is none, from x", v, 2, "x", list(5), list(7))
	v = levels(nil, []api.File{file(1, 6, "b", "y"), file(1, 5, "x", "z"), file(1, 4, "c", "c")}, []api.File{file(2, 7, "c", "c")})
	takes(t, "an order that is none, from c", v, 1, "c", list(5), nil)
	takes(t, "an order that is none, from b", v, 1, "b", list(5), nil)
	takes(t, "an order that is none, from a", v, 1, "a", list(6), list(7))
	long := strings.Repeat("m", 200)
	v = levels([]api.File{{}, {Num: 8, Large: api.IKey{User: long}}, {Num: 9, Small: api.IKey{User: long}, Large: api.IKey{User: long + "m"}}, {Num: 8, Large: api.IKey{User: "l"}}})
	takes(t, "numbers that come twice, users that are long", v, 0, "", list(0, 8, 9, 8), nil)
	takes(t, "Num and Size of all kinds", levels(nil, []api.File{{Num: math.MaxUint64, Size: math.MinInt, Small: api.IKey{User: "a", Seq: math.MaxUint64, Kind: -3}}}), 1, "", list(math.MaxUint64), nil)
}

// P18.4: what Inputs answers are the files, whole.
func TestWholeFiles(t *testing.T) {
	odd := func(level int, num uint64) api.File {
		return api.File{Level: level * 7, Num: num, Size: -6, Small: api.IKey{User: "a", Seq: math.MaxUint64, Kind: -7}, Large: api.IKey{User: "b", Kind: 9}}
	}
	for level := range 3 {
		v := api.Version{}
		v.L[level], v.L[level+1] = []api.File{odd(level, 5)}, []api.File{odd(level, 6), odd(level, 7)}
		lower, upper := score.Inputs(v, level, "")
		if !slices.Equal(lower, v.L[level]) || !slices.Equal(upper, v.L[level+1]) {
			t.Errorf("level %d: %+v, %+v", level, lower, upper)
		}
	}
	v := levels([]api.File{odd(0, 5), odd(1, 6), odd(2, 7)})
	if lower, upper := score.Inputs(v, 0, ""); !slices.Equal(lower, v.L[0]) || len(upper) != 0 {
		t.Errorf("%+v, %+v", lower, upper)
	}
}
