package merge

import (
	"container/heap"
)

// Where the next entry of a list stands, the one way and the other.
const (
	toNext = 1
	toPrev = -1
)

// way is a way to go through lists.
type way struct {
	all   all
	step  int
	comes func(p, q place) bool // whether the entry at p comes ahead of the one at q
}

// heads are the lists' next entries, in a heap: at its top is the one that comes first.
type heads struct {
	way
	places []place
	last   place // what was taken last
}

// on are the entries that come next behind a gap, which cuts each list.
func (a all) on(cut func(list int) int) *heads {
	h := &heads{way: way{a, toNext, a.ahead}}
	for i := range a {
		h.lay(place{i, cut(i)})
	}
	return h
}

// back are those that come next ahead of it.
func (a all) back(cut func(list int) int) *heads {
	h := &heads{way: way{a, toPrev, a.behind}}
	for i := range a {
		h.lay(place{i, cut(i) - 1})
	}
	return h
}

// lay puts a list's next entry into the heap, if there is one.
func (h *heads) lay(p place) {
	if h.all.has(p) {
		heap.Push(h, p)
	}
}

// fit is whether they are those that come next to a place. A copy of an Iter goes on with the same ones, so that they may have gone elsewhere.
func (h *heads) fit(step int, at place) bool {
	return h.step == step && h.last == at
}

// take is the place of what comes first, for which the next one of its list then stands.
func (h *heads) take() (place, bool) {
	if len(h.places) == 0 {
		return place{}, false
	}
	h.last = h.places[0]
	next := place{h.last.list, h.last.index + h.step}
	if h.all.has(next) {
		h.places[0] = next
		heap.Fix(h, 0)
	} else {
		heap.Pop(h)
	}
	return h.last, true
}

// Len is how many entries there are.
func (h *heads) Len() int { return len(h.places) }

// Less is whether one comes ahead of another one.
func (h *heads) Less(i, j int) bool { return h.comes(h.places[i], h.places[j]) }

// Swap lays two for one another.
func (h *heads) Swap(i, j int) { h.places[i], h.places[j] = h.places[j], h.places[i] }

// Push lays one behind all.
func (h *heads) Push(x any) { h.places = append(h.places, x.(place)) }

// Pop takes the one behind all away.
func (h *heads) Pop() any {
	end := len(h.places) - 1
	p := h.places[end]
	h.places = h.places[:end]
	return p
}
