package skip

import (
	"staddle/api"
)

// operation puts a node into levels, from 0 on. Each of its steps reads or changes one link that others may change: theirs may come between any two.
type operation struct {
	own    *node
	height int
	level  int
	at     *node                // in that level, and its key is less; it stays so, for nothing leaves a level
	seen   *node                // what was behind at when it was read
	ahead  [api.MaxHeight]*node // in each level, where the way down left it
	next   func()               // nil if it is done
}

// beginAt is an operation that has done no step.
func beginAt(head *node, key string, height int) *operation {
	o := &operation{own: &node{key: key}, height: height, level: api.MaxHeight - 1, at: head}
	o.next = o.descend
	return o
}

// descend goes from the highest level, where few keys are, down to level 0, so that most keys are never read.
func (o *operation) descend() {
	if o.pass() {
		return
	}
	o.ahead[o.level] = o.at
	if o.level == 0 {
		o.next = o.lay
		return
	}
	o.level--
}

// look goes on in one level: others may have come into it since the way down left it.
func (o *operation) look() {
	if !o.pass() {
		o.next = o.lay
	}
}

// pass reads what is behind, and goes there if its key is less too: whether it did.
func (o *operation) pass() bool {
	o.seen = o.at.behind[o.level]
	if o.seen == nil || o.seen.key >= o.own.key {
		return false
	}
	o.at = o.seen
	return true
}

// lay brings the node into the level, unless another one came in between since it was read.
func (o *operation) lay() {
	o.own.behind[o.level] = o.seen
	if !o.at.swap(o.level, o.seen, o.own) {
		o.next = o.look
		return
	}
	o.climb()
}

// climb is for a node that came into the level.
func (o *operation) climb() {
	o.level++
	if o.level == o.height {
		*o = operation{} // nothing of it is wanted any more: its node is in the levels
		return
	}
	o.at = o.ahead[o.level]
	o.next = o.look
}

// swap sets what is behind to another one, if it still is what was read: whether it did.
func (n *node) swap(level int, old, other *node) bool {
	if n.behind[level] != old {
		return false
	}
	n.behind[level] = other
	return true
}
