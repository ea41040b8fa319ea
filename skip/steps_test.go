package skip_test

import (
	"fmt"
	"testing"

	"staddle/skip"
)

// bound is how many steps an operation may take alone, where so many were begun.
func bound(height, begun int) int { return height*(begun+16) + 16 }

// name is a key of four digits, so that numbers rise as their keys do.
func name(i int) string { return fmt.Sprintf("%04d", i) }

// filled is a list of so many operations that are done, of that height, in rising order.
func filled(t *testing.T, count, height int) *skip.List {
	t.Helper()
	l := fresh(t, 1000)
	for i := range count {
		if _, err := l.Begin(name(i), height); err != 0 {
			t.Fatalf("Begin: %d", err)
		}
		does(t, l, i)
	}
	return l
}

// P7.4: alone, ahead of, between and behind as many keys as there may be, of each height.
func TestStepsAlone(t *testing.T) {
	for _, count := range []int{0, 1, 2, 30, 999} {
		for _, of := range []int{1, 2, 8} {
			for height := 1; height <= 8; height++ {
				if count == 999 && height != 1 && height != 8 {
					continue
				}
				for _, key := range []string{"", name(count / 2), "z"} {
					l := filled(t, count, of)
					begins(t, l, key+"+", height, count)
					if n := does(t, l, count); n > bound(height, count+1) {
						t.Errorf("behind %d keys of height %d, %q of height %d took %d steps", count, of, key, height, n)
					}
				}
			}
		}
	}
}

// P7.4: what others began, without a step, does not hold it up.
func TestStepsAmongBegun(t *testing.T) {
	for _, begun := range []int{0, 1, 100, 998} {
		l := fresh(t, 1000)
		for i := range begun {
			l.Begin(name(i), 8)
		}
		begins(t, l, "z", 8, begun)
		if n := does(t, l, begun); n > bound(8, begun+1) {
			t.Errorf("among %d that were begun it took %d steps", begun, n)
		}
	}
}

// P7.4: halted behind any of its steps, while all others come ahead of it into all levels; from there on it is alone.
func TestStepsBehindHalt(t *testing.T) {
	for _, count := range []int{1, 10, 100} {
		for _, height := range []int{1, 2, 5, 8} {
			for halt := range 8 + 2*height {
				l := fresh(t, 1000)
				begins(t, l, "z", height, 0)
				for range halt {
					l.Step(0)
				}
				for i := range count {
					l.Begin(name(i), 8)
				}
				for i := range count {
					does(t, l, count-i)
				}
				if n := does(t, l, 0); n > bound(height, count+1) {
					t.Errorf("halted behind %d steps by %d keys, of height %d it took %d more", halt, count, height, n)
				}
			}
		}
	}
}

// P7.4: others come between its look and its lay, each time that it is about to lay; each of its waits is short all the same.
func TestStepsHeldUp(t *testing.T) {
	for _, height := range []int{1, 3, 8} {
		w := watch(t, 1000, []put{{"z", height}})
		for i := range 60 {
			w.begin(put{name(i), 1 + i%8})
		}
		for other := 1; other <= 60; other++ {
			for range 1 + other%11 {
				w.step(0)
			}
			w.run(other)
		}
		w.run(0)
		w.ends()
	}
}

// P7.4: steps that change no level, of others that are done or go on, are none that hold it up.
func TestStepsBesideIdle(t *testing.T) {
	w := watch(t, 100, []put{{"a", 8}, {"b", 8}, {"c", 8}})
	w.run(0)
	for done := false; !done; {
		w.step(0)
		done = w.step(1)
		w.step(0)
	}
	for done := false; !done; {
		w.step(1)
		done = w.step(2)
		w.step(0)
	}
	w.ends()
}
