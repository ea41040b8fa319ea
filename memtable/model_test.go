package memtable_test

import (
	"math"
	"math/rand"
	"strings"
	"testing"

	"staddle/api"
	"staddle/memtable"
)

// model is a table that is a plain list of entries, as they were added.
type model struct {
	entries []api.KV
	frozen  bool
}

func (m *model) there(k api.IKey) bool {
	for _, e := range m.entries {
		if e.Key == k {
			return true
		}
	}
	return false
}

func (m *model) add(k api.IKey, value string) api.Errno {
	switch {
	case m.frozen:
		return api.ErrMemFrozen
	case len(k.User) > 64:
		return api.ErrKeyLong
	case k.Seq >= 1<<56:
		return api.ErrKeySeq
	case k.Kind != 0 && k.Kind != 1:
		return api.ErrKeyKind
	case len(value) > 1000, k.Kind == 0 && value != "":
		return api.ErrBatchValue
	case m.there(k):
		return api.ErrMemSame
	}
	m.entries = append(m.entries, api.KV{Key: k, Value: value})
	return api.OK
}

// anyUser is one of few and short users, so that many are neighbours; seldom a long one.
func anyUser(r *rand.Rand) string {
	if r.Intn(40) == 0 {
		return strings.Repeat("\x00", 63+r.Intn(3))
	}
	b := make([]byte, r.Intn(4))
	for i := range b {
		b[i] = []byte{0, 1, 'a', 0xff}[r.Intn(4)]
	}
	return string(b)
}

func anyNumber(r *rand.Rand) uint64 {
	switch r.Intn(20) {
	case 0:
		return api.MaxSeq - 1 + uint64(r.Intn(3))
	case 1:
		return []uint64{255, 256, 1 << 40, 1 << 56, math.MaxUint64}[r.Intn(5)]
	}
	return uint64(r.Intn(12))
}

func anyKind(r *rand.Rand) int {
	if r.Intn(30) == 0 {
		return []int{-1, 2, 256, 257, math.MinInt}[r.Intn(5)]
	}
	return r.Intn(2)
}

func anyValue(r *rand.Rand) string {
	switch r.Intn(30) {
	case 0:
		return strings.Repeat("v", 999+r.Intn(3))
	case 1:
		return "\x00\xff"
	}
	return strings.Repeat("v", r.Intn(3))
}

// P8.1 to P8.4: calls by chance tell what the model tells.
func TestModel(t *testing.T) {
	for seed := range 120 {
		r := rand.New(rand.NewSource(int64(seed)))
		m, plain := memtable.New(), &model{}
		for range 400 {
			k, value := api.IKey{User: anyUser(r), Seq: anyNumber(r), Kind: anyKind(r)}, anyValue(r)
			if err, want := m.Add(k, value), plain.add(k, value); err != want {
				t.Fatalf("seed %d: Add(%s, %.20q): %d, not %d", seed, short(k), value, err, want)
			}
			for range 3 {
				user, seq := anyUser(r), anyNumber(r)
				value, what := knownOf(plain.entries, user, seq)
				knows(t, m, user, seq, value, what)
			}
			if r.Intn(300) == 0 {
				m.Freeze()
				plain.frozen = true
			}
			if r.Intn(10) == 0 {
				holds(t, m, sizeOf(plain.entries), inOrder(plain.entries)...)
			}
		}
		holds(t, m, sizeOf(plain.entries), inOrder(plain.entries)...)
	}
}
