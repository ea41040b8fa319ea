package score_test

import (
	"math"
	"math/rand"
	"slices"
	"strings"
	"testing"

	"staddle/api"
	"staddle/score"
	"staddle/version"
)

// chance makes things by chance, the same in each run.
type chance struct{ *rand.Rand }

// user is a user's key of few bytes, so that they are often the same, or hard by.
func (c chance) user() string {
	const bytes = "ab\x00\xff"
	var b strings.Builder
	for range c.Intn(5) {
		b.WriteByte(bytes[c.Intn(len(bytes))])
	}
	return b.String()
}

// file is a file, one time in a few without users.
func (c chance) file(level int) api.File {
	from, to := c.user(), c.user()
	switch c.Intn(3) {
	case 0:
		to = from
	case 1:
		to = from + to
	}
	if to < from && c.Intn(6) > 0 {
		from, to = to, from
	}
	f := file(level, uint64(c.Intn(100)), from, to)
	f.Size = []int{c.Intn(100), c.Intn(100), c.Intn(1 << 40), -c.Intn(100), math.MaxInt, math.MinInt}[c.Intn(6)]
	return f
}

// version is files as they come, many of which may not be together.
func (c chance) version(most int) api.Version {
	var v api.Version
	for level := range v.L {
		for range c.Intn(most + 1) {
			v.L[level] = append(v.L[level], c.file(level))
		}
		if c.Intn(2) == 0 {
			slices.SortFunc(v.L[level], func(f, g api.File) int { return strings.Compare(f.Small.User, g.Small.User) })
		}
	}
	return v
}

// float is a number as those of falling, or one that is about as great as what it divides.
func (c chance) float() float64 {
	all := floats()
	if i := c.Intn(2 * len(all)); i < len(all) {
		return all[i].f
	}
	return float64(c.Intn(200)) / 4
}

// ends are the least Small's User and the greatest Large's of some files.
func ends(l []api.File) (from, to string) {
	for i, f := range l {
		if i == 0 || f.Small.User < from {
			from = f.Small.User
		}
		if i == 0 || f.Large.User > to {
			to = f.Large.User
		}
	}
	return from, to
}

// hasOf is whether a file has a user from from to to: if any, then the greater one of the two beginnings.
func hasOf(f api.File, from, to string) bool {
	user := max(f.Small.User, from)
	return user <= f.Large.User && user <= to
}

// taken are level 0's files that the document takes, one by one, again and again.
func taken(l []api.File) []api.File {
	in := make([]bool, len(l))
	in[len(l)-1] = true
	for came := true; came; {
		came = false
		from, to := ends(those(l, in))
		for i, f := range l {
			if !in[i] && hasOf(f, from, to) {
				in[i], came = true, true
			}
		}
	}
	return those(l, in)
}

// those are the files that are in.
func those(l []api.File, in []bool) []api.File {
	var out []api.File
	for i, f := range l {
		if in[i] {
			out = append(out, f)
		}
	}
	return out
}

// inputsPlainly is Inputs as the document tells it.
func inputsPlainly(v api.Version, level int, from string) (lower, upper []api.File) {
	if level < 0 || level > 2 || len(v.L[level]) == 0 {
		return nil, nil
	}
	l := v.L[level]
	if level == 0 {
		lower = taken(l)
	} else {
		at := max(0, slices.IndexFunc(l, func(f api.File) bool { return f.Small.User > from }))
		lower = l[at : at+1]
	}
	first, last := ends(lower)
	return lower, version.Over(v, level+1, first, last)
}

// P18.4, P18.5: files by chance: lower and upper are what the document says, and no file of level 0 that is left has a user between those of lower.
func TestInputsByChance(t *testing.T) {
	counts := map[int]int{}
	c := chance{rand.New(rand.NewSource(18))}
	for range 40000 {
		v := c.version(1 + c.Intn(9))
		from := c.user()
		for level := -1; level <= api.Levels; level++ {
			lower, upper := score.Inputs(v, level, from)
			wantLower, wantUpper := inputsPlainly(v, level, from)
			if !slices.Equal(lower, wantLower) || !slices.Equal(upper, wantUpper) {
				t.Fatalf("%+v, %d, %q: %v, %v; want %v, %v", v, level, from, lower, upper, wantLower, wantUpper)
			}
			if level == 0 {
				counts[len(lower)]++
				leavesNone(t, v.L[0], lower)
			}
		}
	}
	for n := range 6 {
		if counts[n] < 500 {
			t.Errorf("%d files of level 0 came %d times", n, counts[n])
		}
	}
}

// leavesNone tells a fault if a file that is not in lower has a user between those of lower.
func leavesNone(t *testing.T, l, lower []api.File) {
	t.Helper()
	from, to := ends(lower)
	left := slices.Clone(l)
	for _, f := range lower {
		left = slices.Delete(left, slices.Index(left, f), slices.Index(left, f)+1)
	}
	for _, f := range left {
		if len(lower) > 0 && hasOf(f, from, to) {
			t.Fatalf("%+v is left of %+v", f, l)
		}
	}
}

// P18.2, P18.3: files, triggers and targets by chance: scores are as the document divides, and that which is picked is 1 or more, none is above it, and none ahead of it is like it.
func TestScoresByChance(t *testing.T) {
	counts := map[int]int{}
	c := chance{rand.New(rand.NewSource(182))}
	for range 40000 {
		v, trigger := c.version(4), c.float()
		var targets []float64
		for range c.Intn(6) {
			targets = append(targets, c.float())
		}
		by := append(slices.Clone(targets), 0, 0, 0)
		want := []float64{float64(len(v.L[0])) / trigger}
		for level, l := range v.L[1:] {
			size := 0
			for _, f := range l {
				size += f.Size
			}
			want = append(want, float64(size)/by[level])
		}
		scores(t, "by chance", v, trigger, targets, want...)
		at := score.Pick(want)
		counts[at]++
		isGreatest(t, want, at)
	}
	for at := -1; at < api.Levels; at++ {
		if counts[at] < 1000 {
			t.Errorf("%d was picked %d times", at, counts[at])
		}
	}
}

// isGreatest tells a fault if a place is not the one that is to be picked.
func isGreatest(t *testing.T, l []float64, at int) {
	t.Helper()
	best := math.Inf(-1)
	if at >= 0 {
		best = l[at]
	}
	if at >= 0 && !(best >= 1) {
		t.Fatalf("%v: %d", l, at)
	}
	for i, s := range l {
		if s >= 1 && (at < 0 || s > best || s == best && i < at) {
			t.Fatalf("%v: %d", l, at)
		}
	}
}

// P18.4: what is merged of levels that may be together can be laid into the next one: all that is left there shares no user with it.
func TestNextLevelHasRoom(t *testing.T) {
	c := chance{rand.New(rand.NewSource(184))}
	merged := 0
	for range 5000 {
		v := c.growing(t)
		for level := range 3 {
			lower, upper := score.Inputs(v, level, c.user())
			if len(lower) == 0 {
				continue
			}
			x := api.Edit{}
			for _, f := range slices.Concat(lower, upper) {
				x.Dels = append(x.Dels, api.Gone{Level: f.Level, Num: f.Num})
			}
			whole := file(level+1, 999, "", "")
			whole.Small.User, whole.Large.User = ends(slices.Concat(lower, upper))
			x.Adds = []api.File{whole}
			if _, err := version.Apply(v, x); err != api.OK {
				t.Fatalf("%+v, %+v: %d", v, x, err)
			}
			merged++
		}
	}
	if merged < 5000 {
		t.Errorf("%d merged", merged)
	}
}

// growing are files that may be together.
func (c chance) growing(t *testing.T) api.Version {
	t.Helper()
	var v api.Version
	for num := range uint64(12) {
		f := c.file(c.Intn(api.Levels))
		f.Num, f.Size = num+1, 1
		if f.Large.User <= f.Small.User {
			f.Small.User, f.Large.User = f.Large.User, f.Small.User
		}
		if w, err := version.Apply(v, api.Edit{Adds: []api.File{f}}); err == api.OK {
			v = w
		}
	}
	if version.Check(v) != api.OK {
		t.Fatalf("%+v", v)
	}
	return v
}
