package view

import (
	"iter"

	"staddle/api"
	"staddle/merge"
)

// way is a way to look through all entries.
type way struct {
	back bool
	step func(all *merge.Iter)              // goes by one entry
	past func(all *merge.Iter, user string) // goes to the first entry behind those of a user that has some
}

// on is the way on: a user's newer entries come first.
func on() way {
	return way{false, (*merge.Iter).Next, func(all *merge.Iter, user string) {
		all.Seek(first(user + "\x00")) // no text stands between the two
	}}
}

// back is the way back: a user's elder entries come first.
func back() way {
	return way{true, (*merge.Iter).Prev, func(all *merge.Iter, user string) {
		all.Seek(first(user))
		all.Prev()
	}}
}

// beside goes to what is seen beside the key that it is at.
func (v *View) beside(w way) {
	if w.back != v.way.back {
		w.past(&v.all, v.at.Key)
	}
	v.look(w)
}

// look goes to the first key that is seen a way, from where all entries are at.
func (v *View) look(w way) {
	v.way, v.at, v.is = w, api.Item{}, false
	for i := range v.seen() {
		v.at, v.is = i, true
		break
	}
}

// seen are the keys that are seen, the way it looks; all entries are behind each one's user when it comes, so that those behind it come next.
func (v *View) seen() iter.Seq[api.Item] {
	return func(yield func(api.Item) bool) {
		for e, ok := v.all.At(); ok; e, ok = v.all.At() {
			n, found := v.newest(e.Key.User)
			if found && n.Key.Kind == api.Put && !yield(api.Item{Key: n.Key.User, Value: n.Value}) {
				return
			}
		}
	}
}

// newest goes past a user's entries, and is the first one of them that is not above the number.
func (v *View) newest(user string) (newest api.KV, found bool) {
	for e, ok := v.all.At(); ok && e.Key.User == user; e, ok = v.all.At() {
		if e.Key.Seq <= v.seq && (v.way.back || !found) {
			newest, found = e, true
		}
		v.way.step(&v.all)
	}
	return newest, found
}
