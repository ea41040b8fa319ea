package skip_test

import (
	"fmt"
	"math/rand"
	"slices"
	"testing"

	"staddle/api"
)

// race is operations that take turns: those of there are done whole, ahead; the first steps of the others are done in their order, so many of each; then all turns are tried.
type race struct {
	there []put
	turns []put
	first []int
}

// at is a list behind so many steps that are not looked at; the script tells which of turns did each.
func (r race) at(t *testing.T, script []int) *watched {
	t.Helper()
	w := &watched{t: t, l: fresh(t, 100), last: -1}
	for op, p := range slices.Concat(r.there, r.turns) {
		if n, err := w.l.Begin(p.key, p.height); n != op || err != api.OK {
			t.Fatalf("Begin(%q, %d): %d, %d", p.key, p.height, n, err)
		}
		w.begun(p)
	}
	for op := range r.there {
		does(t, w.l, op)
		w.done[op] = true
	}
	for i, n := range r.first {
		for range n {
			w.jump(len(r.there) + i)
		}
	}
	for _, i := range script {
		w.jump(len(r.there) + i)
	}
	w.told = tells(w.l)
	return w
}

// all tries every order of turns, to the end: how many there are.
func (r race) all(t *testing.T) int {
	t.Helper()
	orders := 0
	for left := [][]int{nil}; len(left) > 0; orders++ {
		script := left[len(left)-1]
		left = r.whole(t, script, left[:len(left)-1])
	}
	return orders
}

// whole looks at the last step of a script, and goes on from there to an end; the scripts of the ways that it did not take are laid behind those that are left.
func (r race) whole(t *testing.T, script []int, left [][]int) [][]int {
	t.Helper()
	known := max(0, len(script)-1)
	w := r.at(t, script[:known])
	for _, i := range script[known:] {
		w.step(len(r.there) + i)
	}
	for {
		way := -1
		for i := range r.turns {
			if w.done[len(r.there)+i] {
				continue
			}
			if way >= 0 {
				left = append(left, append(slices.Clone(script), i))
				continue
			}
			way = i
		}
		if way < 0 {
			break
		}
		script = append(slices.Clone(script), way)
		w.step(len(r.there) + way)
	}
	if want := levelsOf(w.puts); !same(w.told, want) {
		t.Fatalf("%v, turns %d: the levels are %q, not %q", r, script, w.told, want)
	}
	return left
}

// brink is so many steps of each operation that the next one of each, alone, changes level 0.
func (r race) brink(t *testing.T) race {
	for i := range r.turns {
		w := race{there: r.there, turns: r.turns}.at(t, nil)
		steps := 0
		for was := len(w.told[0]); len(w.told[0]) == was; steps++ {
			w.step(len(r.there) + i)
		}
		r.first = append(r.first, steps-1)
	}
	return r
}

// P7.2, P7.5: two operations, in all turns from their first steps on; their keys are neighbours in an empty list.
func TestAllTurns(t *testing.T) {
	if n := (race{turns: []put{{"b", 1}, {"a", 1}}}).all(t); n < 2 {
		t.Errorf("only %d orders", n)
	}
}

// P7.2, P7.5: two operations, in all turns from where each is about to lay its key: neighbours, with keys ahead, between and behind, and without.
func TestAllTurnsOfTwo(t *testing.T) {
	for _, there := range [][]put{nil, {{"a", 2}}, {{"z", 3}}, {{"a", 1}, {"z", 8}}, {{"a", 8}, {"m", 2}, {"z", 1}}} {
		for _, high := range [][2]int{{1, 1}, {1, 3}, {3, 1}, {2, 2}, {3, 3}, {4, 2}} {
			for _, keys := range [][2]string{{"b", "c"}, {"c", "b"}, {"k", "p"}, {"k", "k\x00"}, {"\xff", ""}} {
				r := race{there: there, turns: []put{{keys[0], high[0]}, {keys[1], high[1]}}}
				r.brink(t).all(t)
			}
		}
	}
}

// P7.2, P7.5: three operations, likewise; in each order of their keys.
func TestAllTurnsOfThree(t *testing.T) {
	for _, there := range [][]put{nil, {{"a", 2}, {"z", 1}}} {
		for _, keys := range []string{"bcd", "bdc", "cbd", "cdb", "dbc", "dcb"} {
			for _, high := range [][3]int{{1, 1, 1}, {1, 2, 1}, {2, 1, 1}} {
				r := race{there: there}
				for i := range keys {
					r.turns = append(r.turns, put{keys[i : i+1], high[i]})
				}
				r.brink(t).all(t)
			}
		}
	}
}

// P7.2, P7.5: four to eight operations, by chance in one of the orders.
func TestTurnsOfMore(t *testing.T) {
	for seed := range 300 {
		random := rand.New(rand.NewSource(int64(seed)))
		r := race{there: []put{{"a", 2}, {"z", 1}}}
		for _, i := range random.Perm(4 + seed%5) {
			r.turns = append(r.turns, put{fmt.Sprint("k", i), 1 + random.Intn(3)})
		}
		w := r.brink(t).at(t, nil)
		for range 100 {
			w.step(2 + random.Intn(len(r.turns)))
		}
		w.ends()
	}
}

// P7.2, P7.5: one operation is halted behind each of its steps, another one is done whole, and the first one goes on; all heights.
func TestHaltedOnce(t *testing.T) {
	there := []put{{"a", 3}, {"m", 1}, {"z", 8}}
	for _, keys := range [][2]string{{"c", "d"}, {"d", "c"}, {"c", "x"}, {"x", "c"}, {"", "zz"}, {"zz", ""}} {
		for high := range 64 {
			turns := []put{{keys[0], 1 + high/8}, {keys[1], 1 + high%8}}
			for halt := 0; ; halt++ {
				w := watch(t, 10, slices.Concat(there, turns))
				for op := range there {
					does(t, w.l, op)
				}
				w.told = tells(w.l)
				done := false
				for range halt {
					done = w.step(3)
				}
				w.run(4)
				w.ends()
				if done {
					break
				}
			}
		}
	}
}

// P7.2, P7.5: two operations are halted behind each of their steps, a third is done whole between their keys, and then either goes on first.
func TestHaltedTwice(t *testing.T) {
	for _, keys := range []string{"abc", "acb", "bac", "bca", "cab", "cba"} {
		for _, high := range [][3]int{{1, 1, 1}, {2, 3, 2}, {3, 2, 8}} {
			turns := []put{{keys[:1], high[0]}, {keys[1:2], high[1]}, {keys[2:], high[2]}}
			for halts := range 16 * 16 * 2 {
				w := watch(t, 10, turns)
				for range halts / 2 / 16 {
					w.step(0)
				}
				for range halts / 2 % 16 {
					w.step(1)
				}
				w.run(2)
				w.run(halts % 2)
				w.ends()
			}
		}
	}
}

// P7.2: a key that came into level 0 between another one's look and its lay is not lost, and neither is that other.
func TestBetweenLookAndLay(t *testing.T) {
	for count := 1; count <= 6; count++ {
		r := race{there: []put{{"a", 1}, {"z", 1}}}
		for i := range count {
			r.turns = append(r.turns, put{fmt.Sprint("k", i), 2})
		}
		for turn := range count {
			w := r.brink(t).at(t, nil)
			for i := range count {
				w.step(2 + (i+turn)%count)
			}
			for i := range count {
				w.run(2 + (count-1-i+turn)%count)
			}
			w.ends()
		}
	}
}
