package memtable_test

import (
	"fmt"
	"math/rand"
	"slices"
	"testing"

	"staddle/api"
	"staddle/memtable"
)

// ways are the orders in which so many keys are added.
func ways(n int) map[string][]int {
	rising := make([]int, n)
	for i := range rising {
		rising[i] = i
	}
	falling := slices.Clone(rising)
	slices.Reverse(falling)
	inward := make([]int, n)
	for i := range inward {
		if inward[i] = i / 2; i%2 == 1 {
			inward[i] = n - 1 - i/2
		}
	}
	outward := slices.Clone(inward)
	slices.Reverse(outward)
	return map[string][]int{"rising": rising, "falling": falling, "inward": inward, "outward": outward, "by chance": rand.New(rand.NewSource(1)).Perm(n)}
}

// P8.1 to P8.4: more keys than a list of layer 7 has room for: none is refused, whatever the order of adding.
func TestManyUsers(t *testing.T) {
	const n = 5000
	var want []api.KV
	for i := range n {
		want = append(want, api.KV{Key: put(fmt.Sprintf("user %05d", 2*i), uint64(i%7)), Value: fmt.Sprint(i)})
	}
	for name, way := range ways(n) {
		m := memtable.New()
		for i, at := range way {
			adds(t, m, want[at].Key, want[at].Value)
			switch i + 1 {
			case 999, 1000, 1001, 1500, 2000, 2001:
				there := inOrder(pick(want, way[:i+1]))
				holds(t, m, sizeOf(there), there...)
				for _, at := range way[:i+1] {
					knows(t, m, want[at].Key.User, 9, want[at].Value, api.There)
				}
			}
		}
		if x := tells(m); !same(x, told{want, sizeOf(want)}) {
			t.Errorf("%s: not all keys, or not in order", name)
		}
		for i, e := range want {
			knows(t, m, e.Key.User, 9, e.Value, api.There)
			knows(t, m, e.Key.User, e.Key.Seq, e.Value, api.There)
			knows(t, m, fmt.Sprintf("user %05d", 2*i+1), 9, "", api.None)
			if e.Key.Seq > 0 {
				knows(t, m, e.Key.User, e.Key.Seq-1, "", api.None)
			}
			if err := m.Add(e.Key, e.Value); err != api.ErrMemSame {
				t.Errorf("%s: Add(%s) again: %d", name, short(e.Key), err)
			}
		}
		knows(t, m, "", 9, "", api.None)
		knows(t, m, "\xff", 9, "", api.None)
	}
}

func pick(entries []api.KV, places []int) []api.KV {
	var out []api.KV
	for _, at := range places {
		out = append(out, entries[at])
	}
	return out
}

// P8.1 to P8.4: one user with more numbers than a list of layer 7 has room for.
func TestManyNumbers(t *testing.T) {
	const n = 3000
	for name, way := range ways(n) {
		m := memtable.New()
		for _, at := range way {
			if at%10 == 3 {
				adds(t, m, del("user", uint64(2*at+1)), "")
			} else {
				adds(t, m, put("user", uint64(2*at+1)), fmt.Sprint(at))
			}
		}
		knows(t, m, "user", 0, "", api.None)
		for at := range n {
			value, what := fmt.Sprint(at), api.There
			if at%10 == 3 {
				value, what = "", api.Deleted
			}
			knows(t, m, "user", uint64(2*at+1), value, what)
			knows(t, m, "user", uint64(2*at+2), value, what)
		}
		all := m.All()
		if len(all) != n {
			t.Fatalf("%s: %d keys", name, len(all))
		}
		for i, e := range all {
			if e.Key.Seq != uint64(2*(n-1-i)+1) {
				t.Fatalf("%s: the key at %d is %s", name, i, short(e.Key))
			}
		}
	}
}

// P8.1: as many keys as the greatest memory of a tuning has, and some more.
func TestVeryMany(t *testing.T) {
	m := memtable.New()
	n := 0
	for ; m.Size() < 1<<20; n++ {
		adds(t, m, del("", uint64(n)), "")
	}
	if n != 1<<16 {
		t.Errorf("%d keys", n)
	}
	adds(t, m, put("", 0), "first")
	m.Freeze()
	refuses(t, m, put("a", 1), "", api.ErrMemFrozen)
	all := m.All()
	if len(all) != n+1 || m.Size() != 16*n+21 || all[n-1].Value != "first" || all[n].Key != del("", 0) {
		t.Errorf("%d keys, %d bytes", len(all), m.Size())
	}
	for seq := 1; seq < n; seq += 97 {
		knows(t, m, "", uint64(seq), "", api.Deleted)
	}
	knows(t, m, "", 0, "first", api.There)
}
