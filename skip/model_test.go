package skip_test

import (
	"math/rand"
	"testing"

	"staddle/api"
)

// anyKey is one of few and short keys, so that many are neighbours, or begun already.
func anyKey(r *rand.Rand) string {
	b := make([]byte, r.Intn(4))
	for i := range b {
		b[i] = []byte{0, 'a', 'b', 0xff}[r.Intn(4)]
	}
	return string(b)
}

// anyBegin begins an operation, and tells a fault if the answer is not what the operations ahead ask for.
func anyBegin(t *testing.T, r *rand.Rand, w *watched, room int) {
	t.Helper()
	p := put{key: anyKey(r), height: r.Intn(10)}
	switch {
	case p.height < 1 || p.height > 8:
		refusesBegin(t, w.l, p.key, p.height, api.ErrSkipHeight)
	case begunIn(w.puts, p.key):
		refusesBegin(t, w.l, p.key, p.height, api.ErrSkipSame)
	case len(w.puts) >= room:
		refusesBegin(t, w.l, p.key, p.height, api.ErrSkipFull)
	default:
		w.begin(p)
	}
}

func begunIn(puts []put, key string) bool {
	for _, p := range puts {
		if p.key == key {
			return true
		}
	}
	return false
}

// anySteps steps operations by chance: each time one, or two in turns, or one to its end.
func anySteps(r *rand.Rand, w *watched) {
	if len(w.puts) == 0 {
		return
	}
	op, other := r.Intn(len(w.puts)), r.Intn(len(w.puts))
	switch r.Intn(4) {
	case 0:
		w.run(op)
	case 1:
		for range r.Intn(12) {
			w.step(op)
			w.step(other)
		}
	default:
		for range r.Intn(12) {
			w.step(op)
		}
	}
}

// P7.1 to P7.5: calls by chance, every step of them held against the promises.
func TestByChance(t *testing.T) {
	for seed := range 150 {
		r := rand.New(rand.NewSource(int64(seed)))
		room := r.Intn(30)
		w := watch(t, room, nil)
		for range 120 {
			if r.Intn(3) == 0 {
				anyBegin(t, r, w, room)
			} else {
				anySteps(r, w)
			}
			reads(t, w.l, w.l.Keys(0), anyKey(r))
			refusesStep(t, w.l, len(w.puts)+r.Intn(3))
			refusesStep(t, w.l, -1-r.Intn(3))
		}
		w.ends()
	}
}

// P7.5: as many operations as there may be, in turns by chance, and one behind the other: the same levels.
func TestManyByChance(t *testing.T) {
	for seed := range 3 {
		r := rand.New(rand.NewSource(int64(seed)))
		l := fresh(t, 1000)
		var puts []put
		for i, n := range r.Perm(1000) {
			p := put{name(n), 1 + r.Intn(8)}
			puts = append(puts, p)
			if got, err := l.Begin(p.key, p.height); got != i || err != api.OK {
				t.Fatalf("the Begin at %d: %d, %d", i, got, err)
			}
		}
		refusesBegin(t, l, "one more", 1, api.ErrSkipFull)
		left := r.Perm(1000)
		for len(left) > 0 {
			i := r.Intn(len(left))
			if done, err := l.Step(left[i]); err != api.OK {
				t.Fatalf("Step(%d): %d", left[i], err)
			} else if done {
				left[i] = left[len(left)-1]
				left = left[:len(left)-1]
			}
		}
		if x, want := tells(l), levelsOf(puts); !same(x, want) {
			t.Errorf("seed %d: the levels are not as if one had been done behind the other", seed)
		}
		for range 1000 {
			reads(t, l, l.Keys(0), name(r.Intn(1100))+[]string{"", "+"}[r.Intn(2)])
		}
	}
}
