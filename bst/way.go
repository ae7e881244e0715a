package bst

import "impost/word"

// passed is an inner node on a way, and what its word was seen to be, clean, if that was asked ahead of the child that is next on the way.
type passed struct {
	*node
	asked bool
	seen  uint64
}

// way is how a call that changes something goes down to where its key stands, or would. Once it has come to a leaf, it asks the words of the last nodes, as it is those that it may mark.
type way struct {
	*nodes
	key  string
	path []passed           // from the first node on; behind one whose word was asked each other one's was, too
	leaf func(l *node) step // what is done at the end
}

// descend goes down from a branch, at inner nodes as toward says, and then does what is to be done at a leaf.
func (x *nodes) descend(b branch, toward func(n *node) branch, leaf func(l *node) step) step {
	return func() step {
		n := x.child(b)
		if n.inner {
			return x.descend(toward(n), toward, leaf)
		}
		return leaf(n)
	}
}

// begin goes down from the first node.
func (w *way) begin() step {
	w.path = nil
	return w.descend(w.pass(w.top), w.pass, w.leaf)
}

// pass is where a node that is passed has the child that is next.
func (w *way) pass(n *node) branch {
	w.path = append(w.path, passed{node: n})
	return n.toward(w.key)
}

// up is the node that is so many above the last one that was passed.
func (w *way) up(n int) *passed {
	return &w.path[len(w.path)-1-n]
}

// anew goes on from the node that is so many above the last one.
func (w *way) anew(up int) step {
	w.path = w.path[:len(w.path)-up]
	return w.look()
}

// look asks the last node's word.
func (w *way) look() step {
	return func() step {
		was, _ := w.Load(w.up(0).word())
		return w.met(was)
	}
}

// met goes on from the last node, of a word that it was found to have; if that isn't clean, it helps first. A node that goes isn't on any way then, but the one above it is, unless that goes, too.
func (w *way) met(was uint64) step {
	switch word.State(was) {
	case word.Clean:
		w.up(0).asked, w.up(0).seen = true, was
		return w.down()
	case word.Goes:
		w.path = w.path[:len(w.path)-1]
	}
	return w.help(was, w.look)
}

// down asks the last node's child.
func (w *way) down() step {
	return func() step {
		n := w.child(w.up(0).toward(w.key))
		if n.inner {
			w.pass(n)
			return w.look()
		}
		return w.leaf(n)
	}
}
