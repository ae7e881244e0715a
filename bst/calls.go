package bst

import (
	"impost/api"
	"impost/word"
)

// find goes down to a leaf, and asks no word.
func (x *nodes) find(k string, tell teller) step {
	toward := func(n *node) branch { return n.toward(k) }
	return x.descend(toward(x.top), toward, func(l *node) step {
		if !l.has(k) {
			return tell(Answer{Key: k})
		}
		return tell(Answer{Ok: true, Key: k, Val: l.val})
	})
}

// seek goes down as a find does. If that ends below the key, the next one is the lowest one on the other side of the last node that it passed on the left.
func (x *nodes) seek(k string, tell teller) step {
	var over *node
	toward := func(n *node) branch {
		if n.above(k) {
			over = n
		}
		return n.toward(k)
	}
	found := func(l *node) step {
		if l.end {
			return tell(Answer{})
		}
		return tell(Answer{Ok: true, Key: l.key, Val: l.val})
	}
	return x.descend(toward(x.top), toward, func(l *node) step {
		if l.above(k) || l.has(k) {
			return found(l)
		}
		return x.descend(over.right(), (*node).left, found)
	})
}

// insert lets an inner node, of a new leaf and a copy of the old one, take the old leaf's place.
func (x *nodes) insert(k string, v uint64, tell teller) step {
	w := &way{nodes: x, key: k}
	var full bool
	begin := func() step {
		// Room is looked at ahead of the way: if there was none then, there was none either when the key wasn't there.
		full = !x.room()
		return w.begin()()
	}
	grow := func(l *node) step {
		return func() step {
			if !x.room() {
				return begin()
			}
			o := &work{state: word.Grows, key: k, at: w.up(0).node, old: l}
			if was, ok := x.start(o, w.up(0).seen); !ok {
				return w.met(was)
			}
			o.next = x.split(l, k, v)
			return x.take(o, o.next, func() step { return tell(Answer{Ok: true, Key: k, Val: v}) })
		}
	}
	w.leaf = func(l *node) step {
		switch {
		case l.has(k):
			return tell(Answer{Key: k, Val: l.val})
		case full:
			return tell(Answer{Err: api.ErrMem})
		case !w.up(0).asked:
			return w.anew(0)
		}
		return grow(l)
	}
	return begin
}

// remove lets a leaf's sibling take its parent's place.
func (x *nodes) remove(k string, tell teller) step {
	w := &way{nodes: x, key: k}
	lose := func(l *node) step {
		return func() step {
			above, parent := w.up(1), w.up(0)
			o := &work{state: word.Loses, key: k, at: above.node, old: parent.node, seen: parent.seen}
			if was, ok := x.start(o, above.seen); !ok {
				w.path = w.path[:len(w.path)-1]
				return w.met(was)
			}
			told := func() step { return tell(Answer{Ok: true, Key: k, Val: l.val}) }
			return x.mark(o, told, func() step { return w.anew(1) })
		}
	}
	w.leaf = func(l *node) step {
		switch {
		case !l.has(k):
			return tell(Answer{Key: k})
		case !w.up(1).asked:
			return w.anew(1)
		}
		return lose(l)
	}
	return w.begin()
}
