package merge_test

import (
	"fmt"
	"math/rand"
	"slices"
	"sort"
	"strings"
	"testing"

	"staddle/api"
	"staddle/merge"
)

// name is a user of four digits, so that numbers rise as users do.
func name(i int) string { return fmt.Sprintf("%04d", i) }

// before is whether a key is ahead of another one, as the document tells it, by other means than the package's.
func before(a, b api.IKey) bool {
	if n := strings.Compare(a.User, b.User); n != 0 {
		return n < 0
	}
	return a.Seq > b.Seq || a.Seq == b.Seq && a.Kind > b.Kind
}

// sorted are all entries of lists: sorted so that like ones stay as they stand, list behind list.
func sorted(lists [][]api.KV) []api.KV {
	out := slices.Concat(lists...)
	sort.SliceStable(out, func(i, j int) bool { return before(out[i].Key, out[j].Key) })
	return out
}

// line is what an Iter is to be: a sorted list, and a place there; -1: none.
type line struct {
	all []api.KV
	at  int
}

func (l *line) set(at int) {
	l.at = at
	if at >= len(l.all) {
		l.at = -1
	}
}

func (l *line) first() { l.set(0) }
func (l *line) last()  { l.at = len(l.all) - 1 }
func (l *line) seek(k api.IKey) {
	l.set(0)
	for l.at >= 0 && before(l.all[l.at].Key, k) {
		l.set(l.at + 1)
	}
}

func (l *line) next() {
	if l.at >= 0 {
		l.set(l.at + 1)
	}
}

func (l *line) prev() {
	if l.at >= 0 {
		l.at--
	}
}

// move is a call of both.
type move struct {
	name string
	x    func(x *merge.Iter)
	l    func(l *line)
}

// moves are all calls, Seek with each of these keys.
func moves(keys ...api.IKey) []move {
	lines := []func(l *line){(*line).first, (*line).last, (*line).next, (*line).prev}
	for _, k := range keys {
		lines = append(lines, func(l *line) { l.seek(k) })
	}
	var out []move
	for i, c := range calls(keys...) {
		out = append(out, move{c.name, c.do, lines[i]})
	}
	return out
}

// asLine tells a fault if an Iter is elsewhere than the line.
func asLine(t *testing.T, what func() string, x *merge.Iter, l *line) {
	t.Helper()
	e, ok := x.At()
	if ok != (l.at >= 0) || !ok && e != (api.KV{}) || ok && e != l.all[l.at] {
		t.Fatalf("%s: at %s, %v; want the place %d of %s", what(), short(e), ok, l.at, short(l.all))
	}
}

// P16.2, P16.3: all lines of six calls, of some lists.
func TestAllLinesOfCalls(t *testing.T) {
	for _, lists := range [][][]api.KV{
		exampleLists(),
		{list("0", put("a", 1)), list("1", put("a", 1))},
		{list("0", put("b", 1)), nil, list("1", put("a", 1), put("b", 1), put("c", 1)), list("2", put("b", 1))},
		{list("0", put("a", 1), put("b", 1), put("c", 1))},
		{nil},
	} {
		all := moves(put("b", 1), put("c", 9))
		each := make([]int, 6)
		for again := true; again; again = raised(each, len(all)) {
			x, l := fresh(t, lists...), &line{sorted(lists), -1}
			for i, n := range each {
				all[n].x(x)
				all[n].l(l)
				asLine(t, func() string { return fmt.Sprint(told(all, each[:i+1])) }, x, l)
			}
		}
	}
}

// told are the names of calls.
func told(all []move, each []int) (out []string) {
	for _, n := range each {
		out = append(out, all[n].name)
	}
	return out
}

// raised counts on by one, in digits below that; false: there are no more.
func raised(digits []int, below int) bool {
	for i := range digits {
		if digits[i]++; digits[i] < below {
			return true
		}
		digits[i] = 0
	}
	return false
}

// chance makes things by chance, the same in each run.
type chance struct{ *rand.Rand }

// key is a key out of few, so that they are often the same.
func (c chance) key(users int) api.IKey {
	k := api.IKey{User: strings.Repeat("ab\x00\xff"[c.Intn(4):][:1], c.Intn(3)), Seq: uint64(c.Intn(4)), Kind: c.Intn(2)}
	if users > 4 {
		k.User = name(c.Intn(users))
	}
	return k
}

// lists are lists that rise.
func (c chance) lists(most, long, users int) [][]api.KV {
	out := make([][]api.KV, c.Intn(most+1))
	for i := range out {
		if c.Intn(5) == 0 {
			continue
		}
		for range c.Intn(long + 1) {
			out[i] = append(out[i], api.KV{Key: c.key(users), Value: fmt.Sprint(i)})
		}
		sort.Slice(out[i], func(a, b int) bool { return before(out[i][a].Key, out[i][b].Key) })
		out[i] = slices.CompactFunc(out[i], func(a, b api.KV) bool { return a.Key == b.Key })
	}
	return out
}

// P16.2, P16.3: calls by chance, of lists by chance, held against a sorted list.
func TestCallsByChance(t *testing.T) {
	turns := 0
	for _, size := range []struct{ runs, most, long, users, calls int }{
		{3000, 4, 5, 4, 60},
		{300, 12, 30, 4, 200},
		{300, 5, 60, 40, 200},
		{20, 60, 100, 1000, 2000},
	} {
		for seed := range int64(size.runs) {
			c := chance{rand.New(rand.NewSource(seed))}
			lists := c.lists(size.most, size.long, size.users)
			x, l := fresh(t, lists...), &line{sorted(lists), -1}
			last := ""
			for range size.calls {
				m := c.move(size.users)
				m.x(x)
				m.l(l)
				asLine(t, func() string { return fmt.Sprintf("lists %s, run %d of %v, %s", short(lists), seed, size, m.name) }, x, l)
				if l.at >= 0 && (last == "Next" && m.name == "Prev" || last == "Prev" && m.name == "Next") {
					turns++
				}
				last = m.name
			}
			goesOn(t, "on", x, l.all)
			goesBack(t, "back", x, l.all)
		}
	}
	if turns < 10000 {
		t.Errorf("%d turns", turns)
	}
}

// move is a call by chance, mostly a step.
func (c chance) move(users int) move {
	all := moves(c.key(users))
	switch n := c.Intn(20); {
	case n < 8:
		return all[2]
	case n < 16:
		return all[3]
	case n < 18:
		return all[4]
	default:
		return all[n-18]
	}
}

// P16.1: lists by chance, most of which do not rise.
func TestListsByChance(t *testing.T) {
	c := chance{rand.New(rand.NewSource(16))}
	seen := map[api.Errno]int{}
	for range 20000 {
		lists := make([][]api.KV, c.Intn(4))
		want := api.OK
		for i := range lists {
			for j := range c.Intn(4) {
				lists[i] = append(lists[i], api.KV{Key: c.key(4)})
				if j > 0 && !before(lists[i][j-1].Key, lists[i][j].Key) {
					want = api.ErrMergeOrder
				}
			}
		}
		x, err := merge.New(lists)
		if err != want || (x == nil) != (want != api.OK) {
			t.Fatalf("%s: nil is %v, %d; want %d", short(lists), x == nil, err, want)
		}
		seen[err]++
	}
	if seen[api.OK] < 2000 || seen[api.ErrMergeOrder] < 2000 {
		t.Errorf("%v", seen)
	}
}

// P16.3: many lists, and long ones, on and back: it takes no time that grows as their product does.
func TestMany(t *testing.T) {
	for _, size := range []struct{ count, long int }{{1, 200000}, {2, 100000}, {1000, 200}, {50000, 4}} {
		lists := make([][]api.KV, size.count)
		all := make([]api.KV, 0, size.count*size.long)
		for i := range size.count * size.long {
			e := api.KV{Key: put("user", uint64(1<<40-i)), Value: name(i % 9999)}
			all = append(all, e)
			lists[i%size.count] = append(lists[i%size.count], e)
		}
		x := fresh(t, lists...)
		goesOn(t, "many", x, all)
		goesBack(t, "many", x, all)
		x.Seek(all[len(all)/2].Key)
		for _, e := range all[len(all)/2:] {
			isAt(t, "from the middle on", x, e)
			x.Next()
		}
		atNone(t, "from the middle on", x)
	}
}
