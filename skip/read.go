package skip

import (
	"staddle/api"
)

// Keys are the keys of a level, in order.
func (l *List) Keys(level int) []string {
	if l == nil || level < 0 || level >= api.MaxHeight {
		return nil
	}
	var out []string
	for n := l.head.behind[level]; n != nil; n = n.behind[level] {
		out = append(out, n.key)
	}
	return out
}

// Seek is the first key that is not less than one.
func (l *List) Seek(key string) (string, bool) {
	if l == nil {
		return "", false
	}
	first := l.last(func(n *node) bool { return n.key < key }).behind[0]
	if first == nil {
		return "", false
	}
	return first.key, true
}

// Before is the last key that is less than one.
func (l *List) Before(key string) (string, bool) {
	if l == nil {
		return "", false
	}
	return l.keyOf(l.last(func(n *node) bool { return n.key < key }))
}

// Last is the last key.
func (l *List) Last() (string, bool) {
	if l == nil {
		return "", false
	}
	return l.keyOf(l.last(func(*node) bool { return true }))
}

// last is the last node of level 0 that passes, the head if none does; those that pass must stand ahead of those that do not.
func (l *List) last(passes func(*node) bool) *node {
	at := &l.head
	for level := api.MaxHeight - 1; level >= 0; level-- {
		for n := at.behind[level]; n != nil && passes(n); n = n.behind[level] {
			at = n
		}
	}
	return at
}

// keyOf is a node's key; the head has none.
func (l *List) keyOf(n *node) (string, bool) {
	if n == &l.head {
		return "", false
	}
	return n.key, true
}
