package bst

import (
	"slices"
	"testing"

	"impost/mem"
	"impost/word"
)

// mixed is numbers that are mixed, and the same in each run.
type mixed uint64

func (d *mixed) next(n int) int {
	*d = *d*6364136223846793005 + 1442695040888963407
	return int(uint64(*d) >> 33 % uint64(n))
}

// sound looks that all words below a node are clean, and all keys from one on, and below another one, where there is one; how many leaves stand there.
func sound(t *testing.T, x *nodes, n *node, from, to *node) int {
	t.Helper()
	if !n.inner {
		if !n.end && (from != nil && from.above(n.key) || to != nil && !to.above(n.key)) {
			t.Fatalf("%q stands where it isn't looked for", n.key)
		}
		return 1
	}
	if w, _ := x.Peek(n.word()); word.State(w) != word.Clean {
		t.Fatalf("a word of state %d", word.State(w))
	}
	leaves := 0
	for i, b := range []branch{n.left(), n.right()} {
		far, _ := x.Peek(b.cell)
		leaves += sound(t, x, x.all[b.first+far], []*node{from, n}[i], []*node{n, to}[i])
	}
	return leaves
}

// Once all calls are done, all words are clean, nothing is kept of what was done, and two leaves end the tree.
func TestNothingIsLeftOfWorks(t *testing.T) {
	d, names := mixed(1), []string{"", "a", "aa", "b", "c", "\xff"}
	for range 3000 {
		x := New(mem.New(0))
		var calls []*Call
		for range 3 + d.next(30) {
			k := names[d.next(len(names))]
			calls = append(calls, []func() *Call{
				func() *Call { return x.Insert(k, 1) },
				func() *Call { return x.Delete(k) },
				func() *Call { return x.Find(k) },
			}[d.next(3)]())
			for range d.next(40) {
				calls[d.next(len(calls))].Step()
			}
		}
		for _, c := range calls {
			for n := 0; !c.Step(); n++ {
				if n > 1000 {
					t.Fatal("no end")
				}
			}
		}
		if n := len(x.nodes.works); n != 0 {
			t.Fatalf("%d works are kept", n)
		}
		if n := sound(t, &x.nodes, x.nodes.top, nil, nil); n != len(x.Keys())+2 {
			t.Fatalf("%d leaves of %d keys", n, len(x.Keys()))
		}
	}
}

// A word that was never comes again: each one that a cell is turned to is another one than all ahead of it.
func TestWordsDoNotComeAgain(t *testing.T) {
	d, names := mixed(2), []string{"", "a", "b", "c"}
	for range 300 {
		x := New(mem.New(0))
		was := [][]uint64{}
		var calls []*Call
		for range 400 {
			if len(calls) == 0 || d.next(8) == 0 {
				k := names[d.next(4)]
				calls = append(calls, []func() *Call{
					func() *Call { return x.Insert(k, 1) },
					func() *Call { return x.Delete(k) },
				}[d.next(2)]())
			}
			i := d.next(len(calls))
			if calls[i].Step() {
				calls = slices.Delete(calls, i, i+1)
			}
			for a := range x.nodes.Len() {
				if a == len(was) {
					was = append(was, nil)
				}
				v, _ := x.nodes.Peek(a)
				if n := len(was[a]); n == 0 || was[a][n-1] != v {
					if slices.Contains(was[a], v) {
						t.Fatalf("cell %d has %d again, behind %v", a, v, was[a])
					}
					was[a] = append(was[a], v)
				}
			}
		}
	}
}
