package bst

import (
	"impost/api"
	"impost/mem"
)

// Where an inner node's word and its children stand, from its first cell on.
const (
	wordAt = iota
	leftAt
	rightAt

	// cells is how many there are: it stands behind them, so that it counts them.
	cells
)

// node is what can't change of a node: of a leaf its key and that one's number, of an inner node its key and its cells.
type node struct {
	place uint64 // among all nodes
	inner bool
	end   bool // above all keys: key plays no part
	key   string
	val   uint64
	cell  int // the first one
}

// branch is where a child stands: its cell, which has how far it is behind a node's first child there.
type branch struct {
	cell  int
	first uint64
}

// nodes are a tree's nodes, and what is being done to them.
type nodes struct {
	*mem.Mem
	all   []*node
	top   *node
	works map[int]*work // those that aren't done, by their numbers
	last  int           // the last work's number: none is taken again, so that no word comes again
}

// above tells whether a key is below a node's; has tells whether it is that.
func (n *node) above(k string) bool {
	return n.end || k < n.key
}

func (n *node) has(k string) bool {
	return !n.end && k == n.key
}

// word is the cell of an inner node's word; left and right are where its children stand.
func (n *node) word() int {
	return n.cell + wordAt
}

func (n *node) left() branch {
	return branch{n.cell + leftAt, n.place - 2}
}

func (n *node) right() branch {
	return branch{n.cell + rightAt, n.place - 1}
}

// toward is where the child stands below which a key does, or would; beside is where the other one stands.
func (n *node) toward(k string) branch {
	if n.above(k) {
		return n.left()
	}
	return n.right()
}

func (n *node) beside(k string) branch {
	if n.above(k) {
		return n.right()
	}
	return n.left()
}

// plant makes the first node, above all keys, of two leaves that are so, too; it tells whether there was room.
func (x *nodes) plant() bool {
	end := node{end: true}
	top, err := x.join(end, end)
	x.top = top
	return err == api.OK
}

// join makes an inner node, of two leaves of which the first one is lower. They stand just ahead of it, so that its new cells, which are 0, have them: nobody need be asked for that.
func (x *nodes) join(low, high node) (*node, api.Errno) {
	first, err := x.Grow(cells)
	if err != api.OK {
		return nil, err
	}
	x.add(low)
	x.add(high)
	return x.add(node{inner: true, end: high.end, key: high.key, cell: first}), api.OK
}

// split makes an inner node, of a new leaf and a copy of an old one. Were it the old one itself, that could come to stand again where it stood, and who saw it there take it for what it was.
func (x *nodes) split(l *node, k string, v uint64) *node {
	low, high := node{key: k, val: v}, *l
	if !l.above(k) {
		low, high = high, low
	}
	n, _ := x.join(low, high)
	return n
}

// add is one more node.
func (x *nodes) add(n node) *node {
	n.place = uint64(len(x.all))
	x.all = append(x.all, &n)
	return &n
}

// room tells whether one more inner node can be made.
func (x *nodes) room() bool {
	return x.Len() <= api.MaxCells-cells
}

// child asks which node stands at a branch.
func (x *nodes) child(b branch) *node {
	far, _ := x.Load(b.cell)
	return x.all[b.first+far]
}

// turn lets a node stand at a branch in another one's place, if that still stands there.
func (x *nodes) turn(b branch, old, next *node) {
	x.CAS(b.cell, old.place-b.first, next.place-b.first)
}

// keys are a list, and the keys below a node behind it.
func (x *nodes) keys(l []string, n *node) []string {
	if !n.inner && n.end {
		return l
	}
	if !n.inner {
		return append(l, n.key)
	}
	for _, b := range []branch{n.left(), n.right()} {
		far, _ := x.Peek(b.cell)
		l = x.keys(l, x.all[b.first+far])
	}
	return l
}
