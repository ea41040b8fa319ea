package edit_test

import (
	"math"
	"slices"
	"strings"
	"testing"

	"staddle/api"
	"staddle/edit"
)

// P13.1: how many there may be.
func TestMany(t *testing.T) {
	may(t, "20000 gone, 100 added", api.Edit{Dels: manyGone(20000), Adds: manyFiles(100)})
	for _, c := range []struct {
		gone, added int
		want        api.Errno
	}{
		{0, 0, api.OK}, {1, 0, api.OK}, {0, 1, api.OK}, {19999, 0, api.OK}, {20000, 0, api.OK}, {0, 99, api.OK}, {0, 100, api.OK},
		{101, 100, api.OK}, {20000, 100, api.OK},
		{20001, 0, api.ErrEditMany}, {0, 101, api.ErrEditMany}, {20001, 100, api.ErrEditMany}, {20000, 101, api.ErrEditMany},
		{20001, 101, api.ErrEditMany}, {1, 101, api.ErrEditMany}, {50000, 0, api.ErrEditMany}, {0, 20000, api.ErrEditMany},
	} {
		x := api.Edit{Dels: manyGone(c.gone), Adds: manyFiles(c.added)}
		if err := edit.Check(x); err != c.want {
			t.Errorf("%d gone, %d added: %d", c.gone, c.added, err)
		}
		if c.want != api.OK {
			mayNot(t, "many", x, c.want)
		}
	}
}

// P13.1: Log, Next and Last.
func TestNumbersOfAll(t *testing.T) {
	for _, n := range []uint64{0, 1, 127, 128, topNum - 1, topNum} {
		may(t, "Log", api.Edit{Log: n})
		may(t, "Next", api.Edit{Next: n})
		may(t, "both", api.Edit{Log: n, Next: topNum - n})
	}
	for _, n := range []uint64{topNum + 1, 1 << 41, topSeq, 1 << 63, math.MaxUint64} {
		mayNot(t, "Log", api.Edit{Log: n}, api.ErrEditFile)
		mayNot(t, "Next", api.Edit{Next: n}, api.ErrEditFile)
		mayNot(t, "both", api.Edit{Log: n, Next: n}, api.ErrEditFile)
	}
	for _, n := range []uint64{0, 1, topNum, topNum + 1, topSeq - 1, topSeq} {
		may(t, "Last", api.Edit{Last: n})
	}
	for _, n := range []uint64{topSeq + 1, 1 << 57, 1 << 63, math.MaxUint64} {
		mayNot(t, "Last", api.Edit{Last: n}, api.ErrKeySeq)
	}
	may(t, "all at their greatest", api.Edit{Log: topNum, Next: topNum, Last: topSeq})
}

// P13.1: levels, of files that are gone and added.
func TestLevels(t *testing.T) {
	for level := range 4 {
		may(t, "gone", dels(api.Gone{Level: level, Num: 1}))
		may(t, "added", adds(file(level, 1)))
	}
	for _, level := range []int{-1, 4, 5, 1 << 32, 1<<32 + 1, 256, -4, math.MinInt, math.MaxInt} {
		mayNot(t, "gone", dels(api.Gone{Level: level, Num: 1}), api.ErrEditLevel)
		mayNot(t, "added", adds(file(level, 1)), api.ErrEditLevel)
	}
}

// P13.1: numbers, of files that are gone and added.
func TestNums(t *testing.T) {
	for _, num := range []uint64{1, 2, 127, 128, topNum - 1, topNum} {
		may(t, "gone", dels(api.Gone{Level: 2, Num: num}))
		may(t, "added", adds(file(2, num)))
	}
	for _, num := range []uint64{0, topNum + 1, 1 << 41, topSeq, 1 << 63, math.MaxUint64} {
		mayNot(t, "gone", dels(api.Gone{Level: 2, Num: num}), api.ErrEditFile)
		mayNot(t, "added", adds(file(2, num)), api.ErrEditFile)
	}
}

// P13.1: whether a number comes twice, or a file that is gone is added, is not asked here.
func TestSameNums(t *testing.T) {
	g := api.Gone{Level: 1, Num: 7}
	may(t, "gone twice", dels(g, g))
	may(t, "added twice", adds(file(1, 7), file(1, 7)))
	may(t, "gone and added", api.Edit{Next: 7, Log: 8, Dels: []api.Gone{g}, Adds: []api.File{file(1, 7)}})
}

// P13.1: how many bytes a file has.
func TestSizes(t *testing.T) {
	for _, size := range []int{1, 2, 127, 128, topSize - 1, topSize} {
		f := file(3, 1)
		f.Size = size
		may(t, "a size", adds(f))
	}
	for _, size := range []int{0, -1, topSize + 1, 1 << 32, 1<<32 + 1, math.MinInt, math.MaxInt} {
		f := file(3, 1)
		f.Size = size
		mayNot(t, "a size", adds(f), api.ErrEditFile)
	}
}

// wrongKeys are keys that may not be, with ikey.Check's errors.
func wrongKeys() map[api.Errno][]api.IKey {
	long := strings.Repeat("x", 65)
	return map[api.Errno][]api.IKey{
		api.ErrKeyLong: {put(long, 1), put(long, topSeq+1), {User: long, Seq: 1, Kind: 2}, {User: long, Seq: topSeq + 1, Kind: -1}},
		api.ErrKeySeq:  {put("a", topSeq+1), del("", math.MaxUint64), {User: "a", Seq: 1 << 60, Kind: 2}},
		api.ErrKeyKind: {{User: "a", Seq: 1, Kind: 2}, {User: "a", Seq: 1, Kind: -1}, {User: "a", Seq: 1, Kind: 256}, {User: "a", Seq: 1, Kind: math.MinInt}},
	}
}

// P13.1: keys that ikey.Check refuses, by each of its errors; Small's comes first.
func TestWrongKeys(t *testing.T) {
	for want, keys := range wrongKeys() {
		for _, k := range keys {
			small, large, both := file(0, 1), file(0, 1), file(0, 1)
			small.Small, large.Large, both.Small, both.Large = k, k, k, k
			for _, f := range []api.File{small, large, both} {
				if err := edit.Check(adds(f)); err != want {
					t.Errorf("%+v: %d", f, err)
				}
				if b, err := edit.Encode(adds(f)); len(b) != 0 || err != want {
					t.Errorf("%+v: % x, %d", f, b, err)
				}
			}
			for other, others := range wrongKeys() {
				for _, l := range others {
					f := file(0, 1)
					f.Small, f.Large = k, l
					if err := edit.Check(adds(f)); err != want {
						t.Errorf("Small %d, Large %d: %d", want, other, err)
					}
				}
			}
		}
	}
}

// P13.1: keys at their edges may be.
func TestEdgesOfKeys(t *testing.T) {
	for _, user := range []string{"", "a", "\x00", strings.Repeat("\xff", 63), strings.Repeat("\xff", 64)} {
		for _, seq := range []uint64{0, 1, topSeq} {
			for _, k := range []api.IKey{put(user, seq), del(user, seq)} {
				f := file(0, 1)
				f.Small, f.Large = k, k
				may(t, "a key", adds(f))
			}
		}
	}
}

// rising are keys, each ahead of the next one.
func rising() []api.IKey {
	return []api.IKey{put("", topSeq), del("", 0), put("a", 9), del("a", 9), put("a", 8), put("a\x00", 9), put("ab", 1), put("b", 9), del("\xff", 1)}
}

// P13.1: Large may be behind Small, or the same, and not ahead of it.
func TestOrderOfKeys(t *testing.T) {
	for i, small := range rising() {
		for j, large := range rising() {
			f := file(1, 1)
			f.Small, f.Large = small, large
			if j < i {
				mayNot(t, "Large ahead", adds(f), api.ErrEditFile)
			} else {
				may(t, "Large not ahead", adds(f))
			}
		}
	}
}

// fault is a change that makes a thing one that may not be, with the error that it is told by.
type fault struct {
	what  string
	spoil func(x *api.Edit)
	want  api.Errno
}

// goneFaults are what may be wrong with a file's level and number, the first ahead.
func goneFaults(i int) []fault {
	return []fault{
		{"a level gone", func(x *api.Edit) { x.Dels[i].Level = 4 }, api.ErrEditLevel},
		{"a number gone", func(x *api.Edit) { x.Dels[i].Num = 0 }, api.ErrEditFile},
	}
}

// fileFaults are what may be wrong with a file, the first ahead.
func fileFaults(i int) []fault {
	return []fault{
		{"a level", func(x *api.Edit) { x.Adds[i].Level = -1 }, api.ErrEditLevel},
		{"a number", func(x *api.Edit) { x.Adds[i].Num = topNum + 1 }, api.ErrEditFile},
		{"a size", func(x *api.Edit) { x.Adds[i].Size = 0 }, api.ErrEditFile},
		{"Small", func(x *api.Edit) { x.Adds[i].Small.User = strings.Repeat("z", 65) }, api.ErrKeyLong},
		{"Large's number", func(x *api.Edit) { x.Adds[i].Large = put("0", topSeq+1) }, api.ErrKeySeq},
	}
}

// faults are what may be wrong with an edit of three and three files, the first ahead.
func faults() []fault {
	l := []fault{
		{"many gone", func(x *api.Edit) { x.Dels = append(x.Dels, manyGone(20000)...) }, api.ErrEditMany},
		{"many added", func(x *api.Edit) { x.Adds = append(x.Adds, manyFiles(100)...) }, api.ErrEditMany},
		{"Log", func(x *api.Edit) { x.Log = topNum + 1 }, api.ErrEditFile},
		{"Next", func(x *api.Edit) { x.Next = topNum + 1 }, api.ErrEditFile},
		{"Last", func(x *api.Edit) { x.Last = topSeq + 1 }, api.ErrKeySeq},
	}
	for i := range 3 {
		l = append(l, goneFaults(i)...)
	}
	for i := range 3 {
		l = append(l, fileFaults(i)...)
	}
	return l
}

// whole is an edit of three and three files.
func whole() api.Edit {
	return api.Edit{Log: 5, Next: 9, Last: 70, Dels: manyGone(3), Adds: manyFiles(3)}
}

// P13.1, R2: of two faults, and of three, the first one is told.
func TestFirstFault(t *testing.T) {
	all := faults()
	for i, first := range all {
		x := whole()
		first.spoil(&x)
		mayNot(t, first.what, x, first.want)
		for j := i + 1; j < len(all); j++ {
			x := whole()
			all[j].spoil(&x)
			first.spoil(&x)
			mayNot(t, first.what+", "+all[j].what, x, first.want)
			for _, third := range all[j+1:] {
				y := api.Edit{Log: x.Log, Next: x.Next, Last: x.Last, Dels: slices.Clone(x.Dels), Adds: slices.Clone(x.Adds)}
				third.spoil(&y)
				if err := edit.Check(y); err != first.want {
					t.Errorf("%s, %s, %s: %d", first.what, all[j].what, third.what, err)
				}
			}
		}
	}
}

// P13.1: within one file the errors of its keys come ahead of their order, and the size ahead of both.
func TestFirstFaultOfAFile(t *testing.T) {
	back := file(0, 1)
	back.Small, back.Large = put("z", 1), put("a", 1)
	mayNot(t, "the order", adds(back), api.ErrEditFile)
	kind := back
	kind.Large.Kind = 2
	mayNot(t, "Large's kind, and the order", adds(kind), api.ErrKeyKind)
	seq := back
	seq.Small.Seq = topSeq + 1
	if err := edit.Check(adds(seq)); err != api.ErrKeySeq {
		t.Errorf("Small's number, and the order: %d", err)
	}
	seq.Large.Kind = 2
	if err := edit.Check(adds(seq)); err != api.ErrKeySeq {
		t.Errorf("Small's number, Large's kind, and the order: %d", err)
	}
	seq.Size = topSize + 1
	mayNot(t, "the size, and all of these", adds(seq), api.ErrEditFile)
	seq.Level = 4
	mayNot(t, "the level, and all of these", adds(seq), api.ErrEditLevel)
	mayNot(t, "the order, and a level behind", adds(back, file(4, 1)), api.ErrEditFile)
	mayNot(t, "a level, and the order behind", adds(file(4, 1), back), api.ErrEditLevel)
}
