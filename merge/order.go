package merge

import (
	"slices"
	"sort"

	"staddle/api"
	"staddle/ikey"
)

// all is lists, whose entries are gone through as one's.
type all [][]api.KV

// place is where an entry stands: in which list, and behind how many of it.
type place struct{ list, index int }

// rises is whether each entry's key is ahead of the next one's.
func rises(l []api.KV) bool {
	for i := 1; i < len(l); i++ {
		if ikey.Compare(l[i-1].Key, l[i].Key) >= 0 {
			return false
		}
	}
	return true
}

// copied are the same lists in memory of their own.
func copied(lists [][]api.KV) all {
	out := make(all, len(lists))
	for i, l := range lists {
		out[i] = slices.Clone(l)
	}
	return out
}

// has is whether there is an entry at a place of a list.
func (a all) has(p place) bool {
	return p.index >= 0 && p.index < len(a[p.list])
}

// entry is the one at a place.
func (a all) entry(p place) api.KV {
	return a[p.list][p.index]
}

// ahead is whether the entry at p is ahead of the one at q.
func (a all) ahead(p, q place) bool {
	if n := ikey.Compare(a.entry(p).Key, a.entry(q).Key); n != 0 {
		return n < 0
	}
	return p.list < q.list
}

// behind is whether the entry at p is behind the one at q.
func (a all) behind(p, q place) bool {
	return a.ahead(q, p)
}

// none and each cut a list ahead of all its entries, and behind them.
func (a all) none(list int) int { return 0 }
func (a all) each(list int) int { return len(a[list]) }

// gap stands between entries: ahead of it are those whose keys are ahead of its own, and, of keys like it, those of so many lists.
type gap struct {
	all   all
	key   api.IKey
	lists int
}

// cut is how many of a list's entries are ahead of a gap.
func (g gap) cut(list int) int {
	l := g.all[list]
	return sort.Search(len(l), func(i int) bool {
		n := ikey.Compare(l[i].Key, g.key)
		return n > 0 || n == 0 && list >= g.lists
	})
}
