package skip_test

import (
	"slices"
	"testing"

	"staddle/api"
	"staddle/skip"
)

// watched is a list whose every step is held against the promises.
type watched struct {
	t     *testing.T
	l     *skip.List
	puts  []put
	done  []bool
	since []int // of each operation: its steps since another one's step changed a level
	alone int   // steps of the operation last, since another one did any
	last  int
	told  told
}

func watch(t *testing.T, room int, puts []put) *watched {
	t.Helper()
	w := &watched{t: t, l: fresh(t, room), last: -1}
	for _, p := range puts {
		w.begin(p)
	}
	return w
}

func (w *watched) begin(p put) {
	w.t.Helper()
	begins(w.t, w.l, p.key, p.height, len(w.puts))
	w.begun(p)
}

// begun is for an operation that was begun in the list.
func (w *watched) begun(p put) {
	w.puts = append(w.puts, p)
	w.done = append(w.done, false)
	w.since = append(w.since, 0)
}

// jump does a step that is not looked at.
func (w *watched) jump(op int) {
	w.t.Helper()
	done, err := w.l.Step(op)
	if err != api.OK {
		w.t.Fatalf("Step(%d): %d", op, err)
	}
	w.done[op] = done
}

// step does a step, and tells a fault if a promise is broken by it: whether the operation is done.
func (w *watched) step(op int) bool {
	w.t.Helper()
	done, err := w.l.Step(op)
	if err != api.OK {
		w.t.Fatalf("Step(%d): %d", op, err)
	}
	now := tells(w.l)
	changed := w.changes(op, now)
	w.told = now
	w.counts(op, done)
	if w.done[op] && (changed || !done) {
		w.t.Fatalf("the operation %d was done: it changed a level, or is not done any more", op)
	}
	w.done[op] = done
	w.holds(op)
	if changed {
		for other := range w.since {
			if other != op {
				w.since[other] = 0
			}
		}
	}
	return done
}

// changes tells a fault if more than one level changes, or not by the operation's key, or that is not in all lower levels: whether one changes. (P7.2)
func (w *watched) changes(op int, now told) bool {
	w.t.Helper()
	p, changed := w.puts[op], 0
	for level := range now {
		if slices.Equal(now[level], w.told[level]) {
			continue
		}
		changed++
		want := slices.Sorted(slices.Values(append(slices.Clone(w.told[level]), p.key)))
		if !slices.Equal(now[level], want) || slices.Contains(w.told[level], p.key) {
			w.t.Fatalf("a step of %q changed level %d from %q into %q", p.key, level, w.told[level], now[level])
		}
		for lower := range level {
			if !slices.Contains(w.told[lower], p.key) {
				w.t.Fatalf("%q came into level %d ahead of %d", p.key, level, lower)
			}
		}
		if level >= p.height {
			w.t.Fatalf("%q, of height %d, came into level %d", p.key, p.height, level)
		}
	}
	if changed > 1 {
		w.t.Fatalf("a step of %q changed %d levels", p.key, changed)
	}
	return changed == 1
}

// counts tells a fault if an operation takes more steps than it may. (P7.4)
func (w *watched) counts(op int, done bool) {
	w.t.Helper()
	bound := w.puts[op].height*(len(w.puts)+16) + 16
	if op != w.last {
		w.last, w.alone = op, 0
	}
	w.alone++
	w.since[op]++
	if w.alone >= bound && !done {
		w.t.Fatalf("%q did %d steps alone, and is not done", w.puts[op].key, w.alone)
	}
	if w.since[op] > bound && !done {
		w.t.Fatalf("%q did %d steps since a level changed, and is not done", w.puts[op].key, w.since[op])
	}
}

// holds tells a fault if an operation that is done has its key elsewhere than it should, or level 0 tells other things than its keys. (P7.2, P7.3, P7.5)
func (w *watched) holds(op int) {
	w.t.Helper()
	p := w.puts[op]
	for level, keys := range w.told {
		if w.done[op] && slices.Contains(keys, p.key) != (level < p.height) {
			w.t.Fatalf("%q, of height %d, is done: the levels are %q", p.key, p.height, w.told)
		}
	}
	for _, key := range []string{p.key, p.key + "\x00"} {
		reads(w.t, w.l, w.told[0], key)
	}
	for _, key := range w.told[0] {
		if !slices.ContainsFunc(w.puts, func(p put) bool { return p.key == key }) {
			w.t.Fatalf("%q is in level 0, and was never begun", key)
		}
	}
	for other, p := range w.puts {
		if w.done[other] && !slices.Contains(w.told[0], p.key) {
			w.t.Fatalf("%q is done, and not in level 0: %q", p.key, w.told[0])
		}
	}
}

// run steps an operation till it is done.
func (w *watched) run(op int) {
	w.t.Helper()
	for !w.step(op) {
	}
}

// ends does what is left, and tells a fault if the levels are not as if one operation had been done behind the other. (P7.5)
func (w *watched) ends() {
	w.t.Helper()
	for op := range w.puts {
		w.run(op)
	}
	if x, want := tells(w.l), levelsOf(w.puts); !same(x, want) {
		w.t.Fatalf("with all done the levels are %q, not %q", x, want)
	}
}
