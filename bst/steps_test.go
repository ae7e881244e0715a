package bst_test

import (
	"fmt"
	"slices"
	"testing"

	"impost/bst"
)

// P15.5: the steps.

// alone looks that a call alone is done in as many steps as it may take on a tree of so many keys.
func alone(t *testing.T, first []string, d deed) {
	t.Helper()
	m, x := planted(t, first...)
	now := modelOf(first)
	a, n := run(t, m, d.on(x))
	same(t, d, a, now.do(d))
	if n > 16+4*len(first) {
		t.Errorf("%v on %d keys: %d steps", d, len(first), n)
	}
}

func TestStepsAlone(t *testing.T) {
	for n := range 24 {
		l := named(n)
		for _, o := range turned(l) {
			for _, k := range append(slices.Clone(l), "", "k", "z", "k00000x", "k00007x", fmt.Sprintf("k%05dx", n-2)) {
				for _, d := range all(k, 5) {
					alone(t, o, d)
				}
			}
		}
	}
}

// Where the tree is one long branch, to the one side, to the other one, and to both by turns.
func TestStepsAloneOnALongBranch(t *testing.T) {
	for _, n := range []int{50, 300} {
		l := named(n)
		for _, o := range turned(l)[:3] {
			for _, k := range keys("", l[0], l[0]+"x", l[1], l[n/2-1], l[n/2], l[n/2]+"x", l[n/2+1], l[n-2], l[n-2]+"x", l[n-1], "z") {
				for _, d := range all(k, 5) {
					alone(t, o, d)
				}
			}
		}
	}
}

// A call is alone also where others stand still in the midst.
func TestStepsAloneWhereOthersStandStill(t *testing.T) {
	d := draw(11)
	names := named(9)
	for range 60000 {
		var first []string
		for _, k := range names[:1+d.next(9)] {
			if d.next(2) == 0 {
				first = slices.Insert(first, d.next(len(first)+1), k)
			}
		}
		m, x := planted(t, first...)
		calls := make([]*bst.Call, 1+d.next(9))
		for i := range calls {
			calls[i] = deed{1 + d.next(2), names[d.next(len(first)+1)%9], 5}.on(x)
		}
		for range d.next(20) {
			c := calls[d.next(len(calls))]
			for range 1 + d.next(9) {
				c.Step()
			}
		}
		n := len(x.Keys())
		c := deed{1 + d.next(4), names[d.next(9)], 5}
		if _, s := run(t, m, c.on(x)); s > 16+4*n {
			t.Fatalf("%v on %d keys of %q: %d steps", c, n, first, s)
		}
	}
}

// turns lets two calls step by turns, from a world in which one of them may have begun; the most steps of one.
func turns(w *world, i, j int) int {
	for len(w.on()) > 0 {
		if w.ret[i] < 0 {
			w.pick(i)
		}
		i, j = j, i
	}
	n := len(slices.DeleteFunc(slices.Clone(w.picks), func(p int) bool { return p == i }))
	return max(n, len(w.picks)-n)
}

func TestStepsByTurns(t *testing.T) {
	for n := range 5 {
		first := keys("b", "d", "f", "h")[:n]
		for _, o := range orders(first) {
			t.Run(fmt.Sprint(o), func(t *testing.T) {
				t.Parallel()
				pairs(about(o, keys("a", "b", "c", "d", "e", "f", "g", "h", "i")[:2*n+1]...), func(a, b deed) {
					for at := range 14 {
						for i := range 2 {
							w := newWorld(t, o, -1, a, b)
							w.times(i, at)
							if s := turns(w, i, 1-i); s > 40+8*n {
								t.Errorf("%v: %d steps", w, s)
							}
							if !apart(a, b) {
								w.each()
							}
							w.settled()
						}
					}
				})
			})
		}
	}
}

func TestStepsOfTwoInsertsOfOneKey(t *testing.T) {
	for _, o := range orders(keys("b", "d", "f", "h")) {
		for _, k := range keys("a", "b", "c", "d", "e", "f", "g", "h", "i") {
			for at := range 14 {
				w := newWorld(t, o, -1, deed{ins, k, 1}, deed{ins, k, 2})
				w.times(0, at)
				if s := turns(w, 0, 1); s > 40 {
					t.Errorf("%v: %d steps", w, s)
				}
				w.settled()
			}
		}
	}
}

func TestStepsByTurnsOnALongBranch(t *testing.T) {
	l := named(40)
	for _, o := range turned(l)[:3] {
		at := []string{l[0], l[0] + "x", l[19], l[20], l[20] + "x", l[21], l[38], l[39], "z"}
		pairs(about(o, at...), func(a, b deed) {
			w := newWorld(t, o, -1, a, b)
			if s := turns(w, 0, 1); s > 40+8*len(l) {
				t.Errorf("%v: %d steps", w, s)
			}
			if !apart(a, b) {
				w.each()
			}
			w.fits()
		})
	}
}
