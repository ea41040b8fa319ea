package skip_test

import (
	"fmt"
	"math"
	"slices"
	"testing"

	"staddle/api"
	"staddle/skip"
)

func fresh(t *testing.T, room int) *skip.List {
	t.Helper()
	l, err := skip.New(room)
	if l == nil || err != api.OK {
		t.Fatalf("New(%d): nil is %v, %d", room, l == nil, err)
	}
	return l
}

// begins begins an operation, and tells a fault if it has another number or if a level changes.
func begins(t *testing.T, l *skip.List, key string, height, want int) {
	t.Helper()
	before := tells(l)
	if n, err := l.Begin(key, height); n != want || err != api.OK {
		t.Fatalf("Begin(%q, %d): %d, %d, not %d", key, height, n, err, want)
	}
	if behind := tells(l); !same(before, behind) {
		t.Errorf("Begin(%q, %d) changed %q into %q", key, height, before, behind)
	}
}

// refusesBegin tells a fault if a Begin answers another error, or changes a level.
func refusesBegin(t *testing.T, l *skip.List, key string, height int, want api.Errno) {
	t.Helper()
	before := tells(l)
	if n, err := l.Begin(key, height); n != 0 || err != want {
		t.Errorf("Begin(%q, %d): %d, %d, not %d", key, height, n, err, want)
	}
	if behind := tells(l); !same(before, behind) {
		t.Errorf("the refused Begin(%q, %d) changed %q into %q", key, height, before, behind)
	}
}

// refusesStep tells a fault if a Step does not answer ErrArg, or changes a level.
func refusesStep(t *testing.T, l *skip.List, op int) {
	t.Helper()
	before := tells(l)
	if done, err := l.Step(op); done || err != api.ErrArg {
		t.Errorf("Step(%d): %v, %d, where there is no such operation", op, done, err)
	}
	if behind := tells(l); !same(before, behind) {
		t.Errorf("the refused Step(%d) changed %q into %q", op, before, behind)
	}
}

// does steps an operation till it is done: how many steps it took.
func does(t *testing.T, l *skip.List, op int) int {
	t.Helper()
	for n := 1; n < 100000; n++ {
		done, err := l.Step(op)
		if err != api.OK {
			t.Fatalf("Step(%d): %d", op, err)
		}
		if done {
			return n
		}
	}
	t.Fatalf("the operation %d has no end", op)
	return 0
}

// told is the keys of all levels.
type told [api.MaxHeight][]string

func tells(l *skip.List) told {
	var out told
	for level := range out {
		out[level] = l.Keys(level)
	}
	return out
}

func same(x, y told) bool {
	return slices.EqualFunc(x[:], y[:], slices.Equal)
}

// put is an operation that is to be begun.
type put struct {
	key    string
	height int
}

// levelsOf are the levels behind these operations, whole.
func levelsOf(puts []put) told {
	var out told
	for _, p := range puts {
		for level := range p.height {
			out[level] = append(out[level], p.key)
		}
	}
	for _, keys := range out {
		slices.Sort(keys)
	}
	return out
}

// The sections "Errors" and "Types": the numbers are api's.
func TestNumbers(t *testing.T) {
	if api.OK != 0 || api.ErrArg != 1 || api.ErrSkipHeight != 70 || api.ErrSkipSame != 71 || api.ErrSkipFull != 72 {
		t.Error("an error has another number than the document's")
	}
	if api.MaxHeight != 8 || api.MaxNodes != 1000 {
		t.Error("a limit is another one than the document's")
	}
}

// The chapter's examples.
func TestExamples(t *testing.T) {
	l := fresh(t, 2)
	begins(t, l, "b", 2, 0)
	begins(t, l, "a", 1, 1)
	refusesBegin(t, l, "a", 1, api.ErrSkipSame)
	refusesBegin(t, l, "c", 1, api.ErrSkipFull)
	does(t, l, 0)
	does(t, l, 1)
	if x := tells(l); !same(x, told{{"a", "b"}, {"b"}}) {
		t.Errorf("the levels are %q", x)
	}
	seeks(t, l, "aa", "b", true)
	before(t, l, "b", "a", true)
	before(t, l, "a", "", false)
}

// P7.1: rooms that may not be; beside the error there is no list.
func TestNewRefuses(t *testing.T) {
	for _, room := range []int{-1, 1001, -1000, 1 << 20, 1 << 32, 1<<32 + 5, math.MaxInt, math.MinInt} {
		if l, err := skip.New(room); l != nil || err != api.ErrArg {
			t.Errorf("New(%d): nil is %v, %d", room, l == nil, err)
		}
	}
}

// P7.1: an empty list has no key, no operation, and just so much room.
func TestNew(t *testing.T) {
	for _, room := range []int{0, 1, 2, 8, 999, 1000} {
		l := fresh(t, room)
		if x := tells(l); !same(x, told{}) {
			t.Errorf("New(%d): %q", room, x)
		}
		refusesStep(t, l, 0)
		for i := range room {
			if n, err := l.Begin(fmt.Sprint(i), 1+i%8); n != i || err != api.OK {
				t.Fatalf("New(%d): the Begin at %d: %d, %d", room, i, n, err)
			}
		}
		refusesBegin(t, l, "one more", 1, api.ErrSkipFull)
		refusesStep(t, l, room)
	}
}

// P7.1: each list is one of its own.
func TestListsAreApart(t *testing.T) {
	a, b := fresh(t, 2), fresh(t, 3)
	begins(t, a, "x", 2, 0)
	begins(t, b, "x", 1, 0)
	does(t, a, 0)
	if x := tells(b); !same(x, told{}) {
		t.Errorf("the other one: %q", x)
	}
	begins(t, a, "y", 1, 1)
	refusesStep(t, b, 1)
	begins(t, b, "y", 1, 1)
	begins(t, b, "z", 1, 2)
	refusesBegin(t, a, "z", 1, api.ErrSkipFull)
}

// P7.1: heights at both ends of what may be, and beyond.
func TestHeights(t *testing.T) {
	l := fresh(t, 1000)
	for i, height := range []int{0, 9, -1, -8, 256 + 1, 1<<32 + 1, math.MaxInt, math.MinInt} {
		refusesBegin(t, l, fmt.Sprint(i), height, api.ErrSkipHeight)
	}
	refusesStep(t, l, 0)
	for i := range 8 {
		// Each of these keys was refused, and may be begun.
		begins(t, l, fmt.Sprint(i), 1+i, i)
	}
}

// P7.1: a key is begun once, whatever its operation did since; neither by that nor by a height that may not be is room lost.
func TestSame(t *testing.T) {
	for _, key := range []string{"", "a", "\x00", "\xff", "a long key of more than a few bytes, also more than sixty-four of them"} {
		l := fresh(t, 2)
		begins(t, l, key, 3, 0)
		again := func() {
			t.Helper()
			for height := 1; height <= 8; height++ {
				refusesBegin(t, l, key, height, api.ErrSkipSame)
			}
			refusesBegin(t, l, key, 0, api.ErrSkipHeight)
		}
		again()
		for done := false; !done; again() {
			done, _ = l.Step(0)
		}
		begins(t, l, key+"\x00", 1, 1)
		again()
		does(t, l, 1)
		again()
	}
}

// P7.1, R2: the height is told ahead of the key, and that ahead of the room.
func TestErrorsInOrder(t *testing.T) {
	for _, room := range []int{1, 3} {
		l := fresh(t, room)
		for i := range room {
			begins(t, l, fmt.Sprint(i), 1, i)
		}
		for _, height := range []int{0, 9} {
			refusesBegin(t, l, "0", height, api.ErrSkipHeight)
			refusesBegin(t, l, "new", height, api.ErrSkipHeight)
		}
		for _, height := range []int{1, 8} {
			refusesBegin(t, l, "0", height, api.ErrSkipSame)
			refusesBegin(t, l, fmt.Sprint(room-1), height, api.ErrSkipSame)
			refusesBegin(t, l, "new", height, api.ErrSkipFull)
		}
	}
	none := fresh(t, 0)
	refusesBegin(t, none, "", 0, api.ErrSkipHeight)
	refusesBegin(t, none, "", 1, api.ErrSkipFull)
	refusesBegin(t, none, "", 1, api.ErrSkipFull)
}

// P7.1: numbers are how many were begun ahead, whether they are done or not; what is done takes room still.
func TestOperationsAreCounted(t *testing.T) {
	l := fresh(t, 4)
	begins(t, l, "b", 1, 0)
	does(t, l, 0)
	begins(t, l, "a", 2, 1)
	refusesBegin(t, l, "a", 2, api.ErrSkipSame)
	refusesBegin(t, l, "d", 9, api.ErrSkipHeight)
	begins(t, l, "d", 3, 2)
	l.Step(2)
	begins(t, l, "c", 1, 3)
	refusesBegin(t, l, "e", 1, api.ErrSkipFull)
	for op := range 4 {
		does(t, l, op)
	}
	refusesBegin(t, l, "e", 1, api.ErrSkipFull)
	if x := tells(l); !same(x, told{{"a", "b", "c", "d"}, {"a", "d"}, {"d"}}) {
		t.Errorf("the levels are %q", x)
	}
}

// P7.2: operations that there are not, with none and with some.
func TestNoSuchOperation(t *testing.T) {
	for _, count := range []int{0, 1, 3} {
		l := fresh(t, 10)
		for i := range count {
			begins(t, l, fmt.Sprint(i), 1, i)
		}
		faults := []int{-1, count, count + 1, -count - 1, 10, 1000, 1 << 32, -1 << 32, math.MaxInt, math.MinInt}
		for _, op := range faults {
			refusesStep(t, l, op)
		}
		for i := range count {
			does(t, l, count-1-i)
		}
		for _, op := range faults {
			refusesStep(t, l, op)
		}
		// What was asked of an operation that was not there is no step of it when it is.
		refusesStep(t, l, count)
		begins(t, l, "new", 1, count)
		want := does(t, copied(t, count), count)
		if n := does(t, l, count); n != want {
			t.Errorf("with %d ahead: it took %d steps, not %d", count, n, want)
		}
	}
}

// copied is a list like TestNoSuchOperation's, of which nothing was asked that it refuses.
func copied(t *testing.T, count int) *skip.List {
	l := fresh(t, 10)
	for i := range count {
		begins(t, l, fmt.Sprint(i), 1, i)
	}
	for i := range count {
		does(t, l, count-1-i)
	}
	begins(t, l, "new", 1, count)
	return l
}

// P7.2: an operation that is done stays done, and a step of it does nothing, whatever others do.
func TestDone(t *testing.T) {
	w := watch(t, 10, []put{{"b", 3}, {"a", 8}, {"c", 1}})
	again := func(ops ...int) {
		t.Helper()
		for _, op := range ops {
			was := tells(w.l)
			for range 3 {
				if done := w.step(op); !done {
					t.Errorf("the operation %d is not done any more", op)
				}
			}
			if x := tells(w.l); !same(x, was) {
				t.Errorf("what is done changed %q into %q", was, x)
			}
		}
	}
	w.run(0)
	again(0)
	w.step(1)
	again(0)
	w.run(1)
	again(0, 1)
	w.run(2)
	again(2, 1, 0)
}

// P7.2: each height, into an empty list, and between, ahead of and behind keys of all heights.
func TestEachHeight(t *testing.T) {
	for height := 1; height <= 8; height++ {
		w := watch(t, 10, []put{{"k", height}})
		w.run(0)
		w.ends()
		for _, key := range []string{"", "a", "c", "e5", "e", "g", "i", "z"} {
			all := []put{{"b", 1}, {"d", 8}, {"f", 4}, {"h", 2}, {key, height}}
			w := watch(t, 10, all)
			for op := range all {
				w.run(op)
			}
			w.ends()
		}
	}
}
