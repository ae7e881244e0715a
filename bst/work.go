package bst

import "impost/word"

// work is what is being done at an inner node, by whoever finds its word: one node below it takes another one's place.
type work struct {
	number int
	state  int // what the word says meanwhile: Grows, or Loses
	key    string
	at     *node
	old    *node  // whose place is taken: the leaf's, or the parent's
	next   *node  // of Grows: who takes it
	seen   uint64 // of Loses: the parent's word, ahead of the mark
}

// word is a word of the work, of a state.
func (o *work) word(state int) uint64 {
	return word.Pack(state, o.number)
}

// start lets a node's word say that a work is done there, if it still is what was seen; it tells what it was, and whether it was that.
func (x *nodes) start(o *work, seen uint64) (uint64, bool) {
	o.number = x.last + 1
	was, ok := x.CAS(o.at.word(), seen, o.word(o.state))
	if ok {
		x.last = o.number
		x.works[o.number] = o
	}
	return was, ok
}

// help does what a word says, and goes on by then, which is told at the last one of its steps; at once, if the work is done.
func (x *nodes) help(w uint64, then step) step {
	o := x.works[word.Info(w)]
	if o == nil {
		return then()
	}
	switch word.State(w) {
	case word.Grows:
		return x.take(o, o.next, then)
	case word.Loses:
		return x.mark(o, then, then)
	}
	return x.drop(o, then)
}

// mark marks the parent's word, and drops it then; if that isn't what it was, the work ends without that, and goes on by failed.
func (x *nodes) mark(o *work, then, failed step) step {
	return func() step {
		goes := o.word(word.Goes)
		was, ok := x.CAS(o.old.word(), o.seen, goes)
		if ok || was == goes {
			return x.drop(o, then)
		}
		return x.end(o, failed)
	}
}

// drop lets the leaf's sibling take the parent's place. Who is below a parent that is marked doesn't change any more.
func (x *nodes) drop(o *work, then step) step {
	return func() step {
		return x.take(o, x.child(o.old.beside(o.key)), then)
	}
}

// take lets a node take the old one's place, and ends the work.
func (x *nodes) take(o *work, next *node, then step) step {
	return func() step {
		x.turn(o.at.toward(o.key), o.old, next)
		return x.end(o, then)
	}
}

// end cleans the word, if nobody did; who finds the work's number from then on has nothing to help.
func (x *nodes) end(o *work, then step) step {
	return func() step {
		x.CAS(o.at.word(), o.word(o.state), o.word(word.Clean))
		delete(x.works, o.number)
		return then()
	}
}
