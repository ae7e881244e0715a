package crowd_test

import (
	"fmt"
	"math"
	"slices"
	"testing"

	"impost/api"
	"impost/bst"
	"impost/crowd"
	"impost/mem"
	"impost/order"
)

// most is how many calls package order takes.
const most = 12

// stage is threads of a Crowd on a tree, each with deeds to do, one behind the other.
type stage struct {
	t     testing.TB
	m     *mem.Mem
	x     *bst.Tree
	c     *crowd.Crowd
	first []string
	todo  [][]deed
	turns []int
}

// stageOf is one whose threads have done nothing, on a tree that has keys.
func stageOf(t testing.TB, first []string, todo ...[]deed) *stage {
	m, x := planted(t, first...)
	return stageOn(t, m, x, first, todo...)
}

// stageOn is one on a tree of somebody's.
func stageOn(t testing.TB, m *mem.Mem, x *bst.Tree, first []string, todo ...[]deed) *stage {
	return &stage{t: t, m: m, x: x, c: crowd.New(len(todo)), first: first, todo: slices.Clone(todo)}
}

func (s *stage) String() string {
	return fmt.Sprintf("%q, turns %v, calls %+v, to do %v", s.first, s.turns, s.c.Calls(), s.todo)
}

// turn lets a thread go on: it begins its next call, if it has none, else it is picked. It tells whether there was anything to do.
func (s *stage) turn(i int) bool {
	s.t.Helper()
	s.turns = append(s.turns, i)
	if !s.c.Idle(i) {
		if !s.c.Pick(i) {
			s.t.Fatalf("%v: it isn't picked", s)
		}
		return true
	}
	if len(s.todo[i]) == 0 {
		return false
	}
	d := s.todo[i][0]
	s.todo[i] = s.todo[i][1:]
	if err := s.c.Begin(i, d.on(s.x), d.kind, d.key); err != api.OK {
		s.t.Fatalf("%v: %v begun: %v", s, d, err)
	}
	return true
}

// on are the threads that have something to do.
func (s *stage) on() []int {
	var l []int
	for i, d := range s.todo {
		if !s.c.Idle(i) || len(d) > 0 {
			l = append(l, i)
		}
	}
	return l
}

// rounds lets threads go on, round by round, until they have nothing to do; in how many rounds.
func (s *stage) rounds(who ...int) int {
	s.t.Helper()
	for n := 0; ; n++ {
		some := false
		for _, i := range who {
			some = s.turn(i) || some
		}
		if !some {
			return n
		}
		if n > 5000 {
			s.t.Fatalf("%v: no end", s)
		}
	}
}

// keys are those of the tree, at first and of what was done to it.
func (s *stage) keys() []string {
	l := slices.Clone(s.first)
	for _, c := range s.c.Calls() {
		l = append(l, c.Key)
	}
	slices.Sort(l)
	return slices.Compact(l)
}

// fits looks that each key's calls can have been one behind the other, and, if there are not too many, all of them.
func (s *stage) fits() {
	s.t.Helper()
	l := s.c.Calls()
	if len(l) <= most && !order.Fits(s.first, l) {
		s.t.Fatalf("%v: that doesn't fit", s)
	}
	for _, k := range s.keys() {
		if of := ofKey(l, k); len(of) > most || !order.Fits(s.first, of) {
			s.t.Fatalf("%v: that of %q doesn't fit", s, k)
		}
	}
}

// ofKey are a key's calls.
func ofKey(l []order.Call, k string) []order.Call {
	return slices.DeleteFunc(slices.Clone(l), func(c order.Call) bool { return c.Key != k })
}

// settled looks that all fits, also with what the tree is found to have then, by a thread that is idle.
func (s *stage) settled(i int) {
	s.t.Helper()
	s.fits()
	var there []string
	for _, k := range s.keys() {
		s.todo[i] = append(s.todo[i], deed{find, k})
		s.rounds(i)
		if l := s.c.Calls(); l[len(l)-1].Ok {
			there = append(there, k)
		}
		s.fits()
	}
	if len(s.on()) == 0 && !slices.Equal(s.x.Keys(), there) {
		s.t.Fatalf("%v: the keys are %q, and %q were found", s, s.x.Keys(), there)
	}
}

// allAnswered looks that each call was answered.
func (s *stage) allAnswered() {
	s.t.Helper()
	for i, c := range s.c.Calls() {
		if c.Ret < c.Inv {
			s.t.Fatalf("%v: the call %d wasn't answered", s, i)
		}
	}
}

// inTurns lets threads go on in all turns in which one that has something to do is left for another one so often at most, and does something at each end. It tells how many ends there were.
func inTurns(t testing.TB, leaves int, first []string, todo [][]deed, end func(s *stage)) int {
	var from func(s *stage, left int) int
	from = func(s *stage, left int) int {
		on, turns := s.on(), slices.Clone(s.turns)
		if len(on) == 0 {
			end(s)
			return 1
		}
		ends := 0
		for _, i := range on {
			more := left
			if n := len(turns); n > 0 && turns[n-1] != i && slices.Contains(on, turns[n-1]) {
				more++
			}
			if more > leaves {
				continue
			}
			if s == nil {
				// No call can go back: the way is gone anew.
				s = stageOf(t, first, todo...)
				for _, j := range turns {
					s.turn(j)
				}
			}
			s.turn(i)
			ends += from(s, more)
			s = nil
		}
		return ends
	}
	return from(stageOf(t, first, todo...), 0)
}

// each is a list of deeds, one for each thread.
func each(l ...deed) [][]deed {
	var out [][]deed
	for _, d := range l {
		out = append(out, []deed{d})
	}
	return out
}

// about are all calls of some keys.
func about(l ...string) []deed {
	var out []deed
	for _, k := range l {
		out = append(out, deed{ins, k}, deed{del, k}, deed{find, k})
	}
	return out
}

// The chapter's example.
func TestExample(t *testing.T) {
	for _, first := range [][]string{nil, keys("m"), keys("a", "z"), keys("m", "a", "l")} {
		for n := 2; n <= api.MaxThreads; n++ {
			var l []deed
			for range n {
				l = append(l, deed{ins, "k"})
			}
			s := stageOf(t, first, each(l...)...)
			var who []int
			for i := range n {
				who = append(who, i)
			}
			s.rounds(who...)
			s.allAnswered()
			ok := 0
			for _, c := range s.c.Calls() {
				if c.Ok {
					ok++
				}
			}
			if ok != 1 {
				t.Errorf("%v: %d of %d are told Ok", s, ok, n)
			}
			s.settled(0)
		}
	}
}

func TestTwoInAllTurns(t *testing.T) {
	ways := 0
	for _, first := range [][]string{nil, keys("b")} {
		l := about("b")
		for i, a := range l {
			for _, b := range l[i:] {
				leaves := math.MaxInt
				if first != nil && a.kind == del && b.kind == del {
					leaves = 5 // There are some five million turns.
				}
				ways += inTurns(t, leaves, first, each(a, b), func(s *stage) {
					s.allAnswered()
					s.settled(0)
				})
			}
		}
	}
	if ways < 10000 {
		t.Errorf("%d ways", ways)
	}
}

func TestTwoOfAnyKeys(t *testing.T) {
	for _, first := range [][]string{nil, keys("b"), keys("b", "d"), keys("d", "b"), keys("b", "d", "c")} {
		l := about("a", "b", "c", "d")
		for _, a := range l {
			for _, b := range l {
				inTurns(t, 2, first, each(a, b), func(s *stage) {
					s.allAnswered()
					s.settled(1)
				})
			}
		}
	}
}

func TestThreeOfOneKey(t *testing.T) {
	for _, first := range [][]string{nil, keys("b"), keys("c", "b"), keys("b", "c")} {
		l := about("b")
		for _, a := range l {
			for _, b := range l {
				for _, c := range l {
					inTurns(t, 2, first, each(a, b, c), func(s *stage) {
						s.allAnswered()
						s.settled(2)
					})
				}
			}
		}
	}
}

// Threads that do one thing behind the other: what was answered ahead of another one's begin is looked at, too.
func TestOneBehindTheOther(t *testing.T) {
	l := about("b")
	for _, first := range [][]string{nil, keys("b", "c")} {
		for _, a := range l {
			for _, b := range l {
				for _, c := range l {
					inTurns(t, 2, first, [][]deed{{a, b}, {c, a}}, func(s *stage) {
						s.allAnswered()
						s.settled(0)
					})
				}
			}
		}
	}
}

// One that is never picked again, at each point of its call, holds up nobody, and what it did, or didn't, fits.
func TestOneIsNeverPickedAgain(t *testing.T) {
	for _, first := range [][]string{nil, keys("b"), keys("b", "d"), keys("d", "b"), keys("c", "b", "d")} {
		for _, a := range about("b", "d") {
			for _, b := range about("a", "b", "d") {
				for _, c := range about("b", "c") {
					stops := 0
					for at := 1; ; at++ {
						s := stageOf(t, first, []deed{a}, []deed{b, c}, []deed{c, b})
						for range at {
							s.turn(0)
						}
						if s.c.Idle(0) {
							break
						}
						s.rounds(1, 2)
						for _, k := range s.c.Calls()[1:] {
							if k.Ret < 0 {
								t.Fatalf("%v: somebody is held up", s)
							}
						}
						if k := s.c.Calls()[0]; k.Ret != -1 || k.Ok {
							t.Fatalf("%v: it wasn't answered", s)
						}
						s.settled(1)
						// It is picked after all.
						s.rounds(0)
						s.allAnswered()
						s.settled(2)
						stops++
					}
					if stops == 0 {
						t.Errorf("%q, %v: it never stopped", first, a)
					}
				}
			}
		}
	}
}

// drawn is a stage of some threads, of some keys, that do what is drawn; no key has more calls than package order takes, with finds behind them.
func drawn(t testing.TB, d *draw, calls int) *stage {
	names := keys("", "a", "b", "c", "d", "e", "f", "g\x00", "\xff")
	names = names[:1+d.next(len(names))]
	var first []string
	for _, k := range names {
		if d.next(2) == 0 {
			first = slices.Insert(first, d.next(len(first)+1), k)
		}
	}
	todo, of := make([][]deed, 1+d.next(api.MaxThreads)), map[string]int{}
	for range calls {
		k := names[d.next(len(names))]
		if of[k]++; of[k] > most-2 {
			continue
		}
		i := d.next(len(todo))
		todo[i] = append(todo[i], deed{[]int{ins, ins, ins, del, del, del, find}[d.next(7)], k})
	}
	return stageOf(t, first, todo...)
}

// all are a stage's threads.
func (s *stage) all() []int {
	var l []int
	for i := range s.todo {
		l = append(l, i)
	}
	return l
}

// Threads that are picked as it is drawn, some of which stop in the midst.
func TestManyAtOnce(t *testing.T) {
	stopped := 0
	for seed := range 4 {
		d := draw(seed + 50)
		for range 1500 {
			s := drawn(t, &d, 2+d.next(40))
			who := s.all()
			for len(who) > 0 {
				at := d.next(len(who))
				i := who[at]
				for range 1 + d.next(1+d.next(12)) {
					s.turn(i)
				}
				// The first one never stops, so that somebody is left to look what there is then.
				switch {
				case s.c.Idle(i) && len(s.todo[i]) == 0:
					who = slices.Delete(who, at, at+1)
				case i > 0 && d.next(60) == 0:
					s.todo[i] = nil
					who = slices.Delete(who, at, at+1)
					if !s.c.Idle(i) {
						stopped++
					}
				}
			}
			s.settled(0)
		}
	}
	if stopped < 500 {
		t.Errorf("%d stopped", stopped)
	}
}

// Picked round by round, from wherever it is, each call is answered.
func TestRoundByRound(t *testing.T) {
	for seed := range 4 {
		d := draw(seed + 80)
		for range 1000 {
			s := drawn(t, &d, 2+d.next(60))
			all := s.all()
			for _, i := range all {
				for range d.next(14) {
					s.turn(i)
				}
			}
			for i := range all {
				j := d.next(len(all))
				all[i], all[j] = all[j], all[i]
			}
			calls := len(s.c.Calls())
			for i := range s.todo {
				calls += len(s.todo[i])
			}
			if n := s.rounds(all...); n > 300*(1+calls) {
				t.Fatalf("%v: %d rounds", s, n)
			}
			s.allAnswered()
			if len(s.c.Calls()) != calls {
				t.Fatalf("%v: %d calls, not %d", s, len(s.c.Calls()), calls)
			}
			for i := range all {
				if !s.c.Idle(i) {
					t.Fatalf("%v: %d isn't idle", s, i)
				}
			}
			s.settled(d.next(len(all)))
		}
	}
}

// Round by round, with some that were never picked again: all others are answered.
func TestRoundByRoundBesideSomeThatStopped(t *testing.T) {
	d := draw(90)
	for range 2000 {
		s := drawn(t, &d, 2+d.next(40))
		var who []int
		for i := range s.todo {
			for range d.next(14) {
				s.turn(i)
			}
			if i == 0 || d.next(2) == 0 {
				who = append(who, i)
			} else {
				s.todo[i] = nil
			}
		}
		s.rounds(who...)
		left := 0
		for _, c := range s.c.Calls() {
			if c.Ret < 0 {
				left++
			}
		}
		for i := range s.todo {
			if !s.c.Idle(i) {
				left--
			}
		}
		if left != 0 {
			t.Fatalf("%v: %d were held up", s, left)
		}
		s.settled(0)
	}
}

// Of the last room's keys some are told that there is none: that fits, as they are noted as calls that weren't answered.
func TestTheLastRoom(t *testing.T) {
	full := 0
	for _, room := range []int{0, 2, 3, 5, 6, 8} {
		for at := range 12 {
			for _, l := range [][]deed{
				{{ins, "a"}, {ins, "a"}},
				{{ins, "a"}, {ins, "b"}},
				{{ins, "b"}, {del, "m"}, {ins, "m"}},
				{{ins, "a"}, {ins, "b"}, {ins, "a"}, {find, "b"}},
				{{ins, "a"}, {ins, "m"}, {del, "a"}, {ins, "a"}},
			} {
				m, x := cramped(t, room, "m")
				s := stageOn(t, m, x, keys("m"), each(l...)...)
				for range at {
					s.turn(0)
				}
				s.rounds(s.all()...)
				for i, c := range s.c.Calls() {
					if !s.c.Idle(i) || c.Ret < 0 && (c.Kind != ins || c.Ok) {
						t.Fatalf("%v: %+v", s, c)
					}
					if c.Ret < 0 {
						full++
					}
				}
				s.settled(0)
			}
		}
	}
	if full == 0 {
		t.Error("nobody was told that there is no room")
	}
}

// Two Crowds of one tree, one behind the other: the second one finds what the first one left.
func TestAnotherCrowdBehind(t *testing.T) {
	d := draw(95)
	for range 800 {
		s := drawn(t, &d, 20)
		s.rounds(s.all()...)
		s.settled(0)
		there := s.x.Keys()
		todo := make([][]deed, 4)
		for i := range todo {
			todo[i] = []deed{{1 + d.next(3), "a"}, {1 + d.next(3), "b"}}
		}
		r := stageOn(t, s.m, s.x, there, todo...)
		if r.c.Clock() != 0 || len(r.c.Calls()) != 0 {
			t.Fatalf("%v: it isn't new", r)
		}
		r.rounds(r.all()...)
		r.allAnswered()
		r.settled(3)
	}
}

// Many threads for long, on one tree: how often each key was inserted, and deleted, says what is there then.
func TestForLong(t *testing.T) {
	for seed := range 3 {
		d := draw(seed)
		names := keys("a", "b", "c", "d", "e", "f", "g", "h", "i", "j")[:4+3*seed]
		s := stageOf(t, names, make([][]deed, 8)...)
		for n := range 30000 {
			i := d.next(8)
			if s.c.Idle(i) && n < 29000 {
				s.todo[i] = []deed{{1 + d.next(3), names[d.next(len(names))]}}
			}
			s.turn(i)
		}
		s.rounds(s.all()...)
		s.allAnswered()
		count := map[string]int{}
		for _, k := range names {
			count[k] = 1
		}
		for _, c := range s.c.Calls() {
			if c.Ok && c.Kind != find {
				count[c.Key] += 3 - 2*c.Kind
			}
		}
		for _, k := range names {
			if is := slices.Contains(s.x.Keys(), k); count[k] != 0 && count[k] != 1 || is != (count[k] == 1) {
				t.Errorf("%q was inserted %d times more than deleted, and is there: %v", k, count[k], is)
			}
		}
		if n := len(s.c.Calls()); n < 1500 || s.c.Clock() < n {
			t.Errorf("%d calls, the clock %d", n, s.c.Clock())
		}
	}
}
