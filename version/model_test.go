package version_test

import (
	"math"
	"math/rand"
	"slices"
	"sort"
	"strings"
	"testing"

	"staddle/api"
	"staddle/edit"
	"staddle/version"
)

// hasUser is whether a file has a user.
func hasUser(f api.File, user string) bool { return f.Small.User <= user && user <= f.Large.User }

// shareUser is whether two files have a user between them: one of them has the other's first one, then.
func shareUser(f, g api.File) bool {
	hasFirst := func(f, g api.File) bool { return g.Small.User <= g.Large.User && hasUser(f, g.Small.User) }
	return hasFirst(f, g) || hasFirst(g, f)
}

// checkPlainly is Check as the document tells it, each pair of files by itself.
func checkPlainly(v api.Version) api.Errno {
	ok := true
	for level, l := range v.L {
		for i, f := range l {
			ok = ok && edit.Check(api.Edit{Adds: []api.File{f}}) == api.OK && f.Level == level
			for other, m := range v.L {
				for j, g := range m {
					ok = ok && (f.Num != g.Num || level == other && i == j)
				}
			}
			if i+1 < len(l) && level == 0 {
				ok = ok && f.Num > l[i+1].Num
			} else if i+1 < len(l) {
				ok = ok && strings.Compare(f.Large.User, l[i+1].Small.User) < 0
			}
		}
	}
	if !ok {
		return api.ErrVersionForm
	}
	return api.OK
}

// applyPlainly is Apply as the document tells it: files in a heap, put in order at the end.
func applyPlainly(v api.Version, x api.Edit) (api.Version, api.Errno) {
	if checkPlainly(v) != api.OK {
		return api.Version{}, api.ErrVersionForm
	}
	if err := edit.Check(x); err != api.OK {
		return api.Version{}, err
	}
	heap := slices.Concat(v.L[:]...)
	for _, g := range x.Dels {
		n := len(heap)
		heap = slices.DeleteFunc(heap, func(f api.File) bool { return f.Level == g.Level && f.Num == g.Num })
		if len(heap) == n {
			return api.Version{}, api.ErrVersionGone
		}
	}
	for _, f := range x.Adds {
		for _, g := range heap {
			if f.Num == g.Num {
				return api.Version{}, api.ErrVersionSame
			}
		}
		for _, g := range heap {
			if f.Level != 0 && f.Level == g.Level && shareUser(f, g) {
				return api.Version{}, api.ErrVersionOver
			}
		}
		heap = append(heap, f)
	}
	out := stand(heap...)
	sort.Slice(out.L[0], func(i, j int) bool { return out.L[0][i].Num > out.L[0][j].Num })
	for _, l := range out.L[1:] {
		sort.Slice(l, func(i, j int) bool { return l[i].Small.User < l[j].Small.User })
	}
	return out, api.OK
}

// chance makes things by chance, the same in each run.
type chance struct{ *rand.Rand }

// user is a user's key of few bytes, so that they are often the same, or hard by.
func (c chance) user() string {
	const bytes = "ab\x00\xff"
	var b strings.Builder
	for range c.Intn(5) {
		b.WriteByte(bytes[c.Intn(len(bytes))])
	}
	return b.String()
}

// file is a file that may be.
func (c chance) file(most int) api.File {
	from, to := c.user(), c.user()
	if c.Intn(2) == 0 {
		to = from + to
	}
	if to < from {
		from, to = to, from
	}
	f := file(c.Intn(api.Levels), uint64(1+c.Intn(most)), from, to)
	f.Size = 1 + c.Intn(100)
	return f
}

// spoilt is a file, one time in a few of which something is as it may not be.
func (c chance) spoilt(f api.File) api.File {
	switch c.Intn(60) {
	case 0:
		f.Level = c.Intn(7) - 2
	case 1:
		f.Num = uint64(c.Intn(2)) * (topNum + 1)
	case 2:
		f.Size = []int{0, -1, topSize + 1, math.MaxInt, math.MinInt}[c.Intn(5)]
	case 3:
		f.Small, f.Large = f.Large, f.Small
	case 4:
		f.Small.Seq = topSeq + 1
	case 5:
		f.Large.Kind = 2
	case 6:
		f.Large.User = strings.Repeat("\xff", 65)
	}
	return f
}

// gone are files to be taken away, most of them there.
func (c chance) gone(v api.Version, n int) []api.Gone {
	heap := slices.Concat(v.L[:]...)
	c.Shuffle(len(heap), func(i, j int) { heap[i], heap[j] = heap[j], heap[i] })
	var out []api.Gone
	for _, f := range heap[:min(n, len(heap))] {
		out = append(out, api.Gone{Level: f.Level, Num: f.Num})
	}
	if c.Intn(12) == 0 {
		out = append(out, api.Gone{Level: c.Intn(api.Levels), Num: uint64(1 + c.Intn(40))})
	}
	if len(out) > 0 && c.Intn(12) == 0 {
		out = append(out, out[c.Intn(len(out))])
	}
	return out
}

// edit is an edit of files.
func (c chance) edit(v api.Version) api.Edit {
	x := api.Edit{Log: uint64(c.Intn(3)), Next: uint64(c.Intn(3)), Last: uint64(c.Intn(3)), Dels: c.gone(v, c.Intn(3))}
	for range c.Intn(4) {
		x.Adds = append(x.Adds, c.spoilt(c.file(40)))
	}
	// What is taken away is often laid again, as it was.
	for _, l := range v.L {
		for _, f := range l {
			if slices.Contains(x.Dels, gone(f.Level, f.Num)) && c.Intn(3) == 0 {
				x.Adds = append(x.Adds, f)
			}
		}
	}
	return x
}

// asPlainly tells a fault if Apply answers otherwise than the document says; it gives what Apply answers.
func asPlainly(t *testing.T, v api.Version, x api.Edit) (api.Version, api.Errno) {
	t.Helper()
	got, err := version.Apply(v, x)
	want, wantErr := applyPlainly(v, x)
	if err != wantErr || !same(got, want) {
		t.Fatalf("%+v, %+v: %d, %+v; want %d, %+v", v, x, err, got, wantErr, want)
	}
	return got, err
}

// P14.2, P14.4: edits one behind the other, by chance: what they make is what a heap of files would be, and may be together.
func TestEditsByChance(t *testing.T) {
	seen := map[api.Errno]int{}
	for seed := range int64(60) {
		c := chance{rand.New(rand.NewSource(seed))}
		var v api.Version
		for range 300 {
			x := c.edit(v)
			w, err := asPlainly(t, v, x)
			seen[err]++
			if err != api.OK {
				continue
			}
			if version.Check(w) != api.OK {
				t.Fatalf("%+v, %+v: files that may not be together", v, x)
			}
			v = w
			asksPlainly(t, v, c)
		}
	}
	for _, err := range []api.Errno{api.OK, api.ErrEditLevel, api.ErrEditFile, api.ErrKeySeq, api.ErrKeyKind, api.ErrKeyLong, api.ErrVersionGone, api.ErrVersionSame, api.ErrVersionOver} {
		if seen[err] < 20 {
			t.Errorf("error %d came %d times", err, seen[err])
		}
	}
}

// P14.4: an edit is undone by its counterpart: what was added is taken away, what was taken away is laid again.
func TestUndoneByChance(t *testing.T) {
	undone := 0
	for seed := range int64(40) {
		c := chance{rand.New(rand.NewSource(seed))}
		var v api.Version
		for range 200 {
			x := c.edit(v)
			w, err := version.Apply(v, x)
			if err != api.OK {
				continue
			}
			makes(t, "undone", w, counterpart(v, x), v)
			v = w
			undone++
		}
	}
	if undone < 1000 {
		t.Errorf("%d edits undone", undone)
	}
}

// counterpart is the edit that undoes another one of v.
func counterpart(v api.Version, x api.Edit) api.Edit {
	var back api.Edit
	for _, f := range x.Adds {
		back.Dels = append(back.Dels, gone(f.Level, f.Num))
	}
	for _, l := range v.L {
		for _, f := range l {
			if slices.Contains(x.Dels, gone(f.Level, f.Num)) {
				back.Adds = append(back.Adds, f)
			}
		}
	}
	return back
}

// version is files as they come, many of which may not be together.
func (c chance) version() api.Version {
	var v api.Version
	for level := range v.L {
		for range c.Intn(4) {
			f := c.file(60)
			f.Level = level
			v.L[level] = append(v.L[level], c.spoilt(f))
		}
		if l := v.L[level]; c.Intn(4) > 0 {
			sort.Slice(l, func(i, j int) bool {
				return level == 0 && l[i].Num > l[j].Num || level > 0 && l[i].Small.User < l[j].Small.User
			})
		}
	}
	return v
}

// P14.1 to P14.3: hand-made files by chance.
func TestFilesByChance(t *testing.T) {
	seen := map[api.Errno]int{}
	c := chance{rand.New(rand.NewSource(14))}
	for range 20000 {
		v := c.version()
		err := version.Check(v)
		if want := checkPlainly(v); err != want {
			t.Fatalf("%+v: %d; want %d", v, err, want)
		}
		seen[err]++
		asPlainly(t, v, c.edit(v))
		asksPlainly(t, v, c)
	}
	if seen[api.OK] < 1000 || seen[api.ErrVersionForm] < 1000 {
		t.Errorf("%v", seen)
	}
}

// asksPlainly tells a fault if Over, Ask, Size or Nums answer otherwise than the document says.
func asksPlainly(t *testing.T, v api.Version, c chance) {
	t.Helper()
	from, to := c.user(), c.user()
	span := api.File{Small: put(from, 1), Large: put(to, 1)}
	var ask []api.File
	var all []uint64
	for level := -1; level <= api.Levels; level++ {
		var over []api.File
		size := 0
		if level >= 0 && level < api.Levels {
			for _, f := range v.L[level] {
				if shareUser(f, span) {
					over = append(over, f)
				}
				if hasUser(f, from) {
					ask = append(ask, f)
				}
				size += f.Size
				at := 0
				for at < len(all) && all[at] < f.Num {
					at++
				}
				all = slices.Insert(all, at, f.Num)
			}
		}
		if got := version.Over(v, level, from, to); !slices.Equal(got, over) {
			t.Fatalf("%+v, Over %d, %q, %q: %+v", v, level, from, to, got)
		}
		if got := version.Size(v, level); got != size {
			t.Fatalf("%+v, Size %d: %d", v, level, got)
		}
	}
	if got := version.Ask(v, from); !slices.Equal(got, ask) {
		t.Fatalf("%+v, Ask %q: %+v", v, from, got)
	}
	if got := version.Nums(v); !slices.Equal(got, all) {
		t.Fatalf("%+v, Nums: %v", v, got)
	}
}

// P14.3: Over against users one by one: a file is told if, and only if, one of all users of up to two bytes is both its own and asked for. (Of ends that are such users, the user that both have is one of them.)
func TestOverByUsers(t *testing.T) {
	users := []string{""}
	for _, a := range "abc" {
		users = append(users, string(a))
		for _, b := range "abc" {
			users = append(users, string(a)+string(b))
		}
	}
	for _, small := range users {
		for _, large := range users {
			v := levels(nil, []api.File{file(1, 1, small, large)})
			for _, from := range users {
				for _, to := range users {
					want := slices.ContainsFunc(users, func(u string) bool { return small <= u && u <= large && from <= u && u <= to })
					if got := len(version.Over(v, 1, from, to)) == 1; got != want {
						t.Errorf("%q to %q, asked %q to %q: %t", small, large, from, to, got)
					}
				}
			}
		}
	}
}
