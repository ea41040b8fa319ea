package view_test

import (
	"fmt"
	"math"
	"math/rand"
	"slices"
	"sort"
	"strings"
	"testing"

	"staddle/api"
	"staddle/view"
)

// name is a user of four digits, so that numbers rise as users do.
func name(i int) string { return fmt.Sprintf("%04d", i) }

// before is whether a key is ahead of another one, as the document tells it, by other means than the package's.
func before(a, b api.IKey) bool {
	if n := strings.Compare(a.User, b.User); n != 0 {
		return n < 0
	}
	return a.Seq > b.Seq || a.Seq == b.Seq && a.Kind > b.Kind
}

// sorted are all entries of lists: sorted so that like ones stay as they stand, list behind list.
func sorted(lists [][]api.KV) []api.KV {
	out := slices.Concat(lists...)
	sort.SliceStable(out, func(i, j int) bool { return before(out[i].Key, out[j].Key) })
	return out
}

// seen is what is seen at a number, as the document tells it: each entry is asked by itself.
func seen(lists [][]api.KV, seq uint64) []api.Item {
	var out []api.Item
	told := map[string]int{}
	for _, e := range sorted(lists) {
		if e.Key.Seq > seq || told[e.Key.User] > 0 {
			continue
		}
		told[e.Key.User]++
		if e.Key.Kind == api.Put {
			out = append(out, api.Item{Key: e.Key.User, Value: e.Value})
		}
	}
	return out
}

// line is what a View is to be: a sorted list of what is seen, and a place there; -1: none.
type line struct {
	all []api.Item
	at  int
}

func (l *line) set(at int) {
	l.at = at
	if at >= len(l.all) {
		l.at = -1
	}
}

func (l *line) first() { l.set(0) }
func (l *line) last()  { l.at = len(l.all) - 1 }
func (l *line) seek(user string) {
	l.set(0)
	for l.at >= 0 && strings.Compare(l.all[l.at].Key, user) < 0 {
		l.set(l.at + 1)
	}
}

func (l *line) next() {
	if l.at >= 0 {
		l.set(l.at + 1)
	}
}

func (l *line) prev() {
	if l.at >= 0 {
		l.at--
	}
}

// call is one call that goes somewhere.
type call struct {
	name string
	do   func(v *view.View)
}

// calls are all calls, Seek with each of these users.
func calls(users ...string) []call {
	out := []call{
		{"First", (*view.View).First},
		{"Last", (*view.View).Last},
		{"Next", (*view.View).Next},
		{"Prev", (*view.View).Prev},
	}
	for _, u := range users {
		out = append(out, call{"Seek " + short(u), func(v *view.View) { v.Seek(u) }})
	}
	return out
}

// move is a call of both.
type move struct {
	name string
	v    func(v *view.View)
	l    func(l *line)
}

// moves are all calls, Seek with each of these users.
func moves(users ...string) []move {
	lines := []func(l *line){(*line).first, (*line).last, (*line).next, (*line).prev}
	for _, u := range users {
		lines = append(lines, func(l *line) { l.seek(u) })
	}
	var out []move
	for i, c := range calls(users...) {
		out = append(out, move{c.name, c.do, lines[i]})
	}
	return out
}

// asLine tells a fault if a View is elsewhere than the line.
func asLine(t *testing.T, what func() string, v *view.View, l *line) {
	t.Helper()
	i, ok := v.At()
	if ok != (l.at >= 0) || !ok && i != (api.Item{}) || ok && i != l.all[l.at] {
		t.Fatalf("%s: at %s, %v; want the place %d of %s", what(), short(i), ok, l.at, short(l.all))
	}
}

// P17.2, P17.3: all lines of five calls, of some lists, at each number.
func TestAllLinesOfCalls(t *testing.T) {
	for _, lists := range [][][]api.KV{
		exampleLists(),
		{{put("a", 1, "0")}, {put("a", 1, "1")}},
		{{put("b", 1, "0")}, nil, {put("a", 2, "1"), put("b", 2, "1"), put("c", 1, "1")}, {put("b", 1, "2")}},
		{{del("a", 1), put("b", 1, ""), del("b\x00", 1), del("bb", 2), put("c", 1, ""), put("d", 3, "")}},
		{nil},
	} {
		all := moves("b", "c", "b\x00")
		for seq := range uint64(6) {
			each := make([]int, 5)
			for again := true; again; again = raised(each, len(all)) {
				v, l := fresh(t, seq, lists...), &line{seen(lists, seq), -1}
				for i, n := range each {
					all[n].v(v)
					all[n].l(l)
					asLine(t, func() string { return fmt.Sprint(seq, told(all, each[:i+1])) }, v, l)
				}
			}
		}
	}
}

// told are the names of calls.
func told(all []move, each []int) (out []string) {
	for _, n := range each {
		out = append(out, all[n].name)
	}
	return out
}

// raised counts on by one, in digits below that; false: there are no more.
func raised(digits []int, below int) bool {
	for i := range digits {
		if digits[i]++; digits[i] < below {
			return true
		}
		digits[i] = 0
	}
	return false
}

// chance makes things by chance, the same in each run.
type chance struct{ *rand.Rand }

// size is how great things by chance are.
type size struct {
	runs, most, long, users int
	seqs                    int // numbers are below that
	calls                   int
}

// user is a user out of few, so that they are often the same.
func (c chance) user(users int) string {
	if users > 4 {
		return name(c.Intn(users))
	}
	return strings.Repeat("ab\x00\xff"[c.Intn(4):][:1], c.Intn(3))
}

// entry is an entry of one of few kinds, mostly a Put.
func (c chance) entry(s size, value string) api.KV {
	kinds := []int{api.Put, api.Put, api.Put, api.Delete, api.Delete, 2, -1}
	return api.KV{Key: api.IKey{User: c.user(s.users), Seq: uint64(c.Intn(s.seqs)), Kind: kinds[c.Intn(len(kinds))]}, Value: value}
}

// lists are lists that rise.
func (c chance) lists(s size) [][]api.KV {
	out := make([][]api.KV, c.Intn(s.most+1))
	for i := range out {
		if c.Intn(5) == 0 {
			continue
		}
		for range c.Intn(s.long + 1) {
			out[i] = append(out[i], c.entry(s, fmt.Sprint(i, c.Intn(3))))
		}
		sort.Slice(out[i], func(a, b int) bool { return before(out[i][a].Key, out[i][b].Key) })
		out[i] = slices.CompactFunc(out[i], func(a, b api.KV) bool { return a.Key == b.Key })
	}
	return out
}

// seq is a number, mostly among those of entries.
func (c chance) seq(s size) uint64 {
	if c.Intn(12) == 0 {
		return math.MaxUint64 - uint64(c.Intn(2))
	}
	return uint64(c.Intn(s.seqs + 1))
}

// P17.2, P17.3: calls by chance, of lists by chance, held against a sorted list of what is seen.
func TestCallsByChance(t *testing.T) {
	turns, most := 0, 0
	for _, s := range []size{
		{3000, 4, 5, 4, 5, 60},
		{300, 12, 30, 4, 9, 200},
		{300, 5, 60, 40, 40, 200},
		{100, 3, 40, 9, 100, 200},
		{20, 60, 100, 1000, 1000, 2000},
	} {
		for seed := range int64(s.runs) {
			c := chance{rand.New(rand.NewSource(seed))}
			lists, seq := c.lists(s), c.seq(s)
			v, l := fresh(t, seq, lists...), &line{seen(lists, seq), -1}
			most = max(most, len(l.all))
			last := ""
			for range s.calls {
				m := c.move(s.users)
				m.v(v)
				m.l(l)
				asLine(t, func() string {
					return fmt.Sprintf("lists %s at %d, run %d of %v, %s", short(lists), seq, seed, s, m.name)
				}, v, l)
				if l.at >= 0 && (last == "Next" && m.name == "Prev" || last == "Prev" && m.name == "Next") {
					turns++
				}
				last = m.name
			}
			goesOn(t, "on", v, l.all)
			goesBack(t, "back", v, l.all)
		}
	}
	if turns < 10000 || most < 300 {
		t.Errorf("%d turns, %d seen at most", turns, most)
	}
}

// move is a call by chance, mostly a step.
func (c chance) move(users int) move {
	all := moves(c.user(users))
	switch n := c.Intn(20); {
	case n < 8:
		return all[2]
	case n < 16:
		return all[3]
	case n < 18:
		return all[4]
	default:
		return all[n-18]
	}
}

// P17.1: lists by chance, most of which do not rise.
func TestListsByChance(t *testing.T) {
	c := chance{rand.New(rand.NewSource(17))}
	got := map[api.Errno]int{}
	for range 20000 {
		lists := make([][]api.KV, c.Intn(4))
		want := api.OK
		for i := range lists {
			for j := range c.Intn(4) {
				lists[i] = append(lists[i], c.entry(size{users: 4, seqs: 4}, ""))
				if j > 0 && !before(lists[i][j-1].Key, lists[i][j].Key) {
					want = api.ErrMergeOrder
				}
			}
		}
		v, err := view.New(lists, uint64(c.Intn(5)))
		if err != want || (v == nil) != (want != api.OK) {
			t.Fatalf("%s: nil is %v, %d; want %d", short(lists), v == nil, err, want)
		}
		got[err]++
	}
	if got[api.OK] < 2000 || got[api.ErrMergeOrder] < 2000 {
		t.Errorf("%v", got)
	}
}

// P17.3: many entries, of many users and of few, on and back: it takes no time that grows as the product of how many there are and how many lists.
func TestMany(t *testing.T) {
	for _, s := range []struct{ lists, users, each int }{{1, 100000, 1}, {2, 50000, 2}, {100, 2000, 50}, {5000, 5000, 10}, {20, 2, 50000}} {
		lists := make([][]api.KV, s.lists)
		var want []api.Item
		for i := range s.users * s.each {
			user, nth := fmt.Sprintf("%06d", i/s.each), i%s.each
			e := put(user, uint64(s.each-nth), fmt.Sprint(nth))
			lists[i%s.lists] = append(lists[i%s.lists], e)
			if nth == s.each/2 {
				want = append(want, item(user, e.Value))
			}
		}
		v := fresh(t, uint64(s.each-s.each/2), lists...)
		goesOn(t, "many", v, want)
		goesBack(t, "many", v, want)
		v.Seek(want[len(want)/2].Key)
		for _, i := range want[len(want)/2:] {
			isAt(t, "from the middle on", v, i)
			v.Next()
		}
		atNone(t, "from the middle on", v)
	}
}
