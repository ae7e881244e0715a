package chain_test

import (
	"fmt"
	"math"
	"math/rand"
	"slices"
	"testing"

	"impost/api"
	"impost/chain"
	"impost/mem"
)

// yard is a cell, and threads that each put events to it, one behind the other.
type yard struct {
	t     testing.TB
	m     *mem.Mem
	s     *chain.Store
	cell  int
	todo  [][]api.Event // of each thread; the first one is what it is at
	now   []*chain.Put  // nil of a thread that is at none
	steps []int         // how often that was stepped
	turns []int
	there []api.Event // what was put, in the turn in which it was there
	ids   []uint64    // and what the cell had then
}

// yardOf is one whose threads have done nothing, on a cell that has versions of some events.
func yardOf(t testing.TB, first []api.Event, todo ...[]api.Event) *yard {
	m := mem.New(2)
	y := &yard{t: t, m: m, s: chain.New(m), todo: slices.Clone(todo), now: make([]*chain.Put, len(todo)), steps: make([]int, len(todo))}
	y.cell, _ = y.s.Cell()
	for _, e := range first {
		for p := y.s.Put(y.cell, e); !p.Step(); {
		}
		y.note(e)
	}
	return y
}

func (y *yard) fail(format string, l ...any) {
	y.t.Helper()
	y.t.Fatalf("turns %v, there %+v, to do %+v: %s", y.turns, y.there, y.todo, fmt.Sprintf(format, l...))
}

// on are the threads that have something to put.
func (y *yard) on() []int {
	var l []int
	for i, e := range y.todo {
		if len(e) > 0 {
			l = append(l, i)
		}
	}
	return l
}

// rev is that of the last one that is there.
func (y *yard) rev() int {
	if len(y.there) == 0 {
		return 0
	}
	return y.there[len(y.there)-1].Rev
}

// note notes that an event is there now.
func (y *yard) note(e api.Event) {
	w, _ := y.m.Peek(y.cell)
	y.there, y.ids = append(y.there, e), append(y.ids, w)
}

// step lets a thread step once; whether what it is at is done then.
func (y *yard) step(i int) bool {
	y.t.Helper()
	e := y.todo[i][0]
	if y.now[i] == nil {
		y.now[i], y.steps[i] = y.s.Put(y.cell, e), 0
	}
	y.turns = append(y.turns, i)
	was, _ := y.m.Peek(y.cell)
	asked := y.m.Count()
	done := y.now[i].Step()
	y.steps[i]++
	if y.m.Count() != asked+1 {
		y.fail("%d cells were asked", y.m.Count()-asked)
	}
	if is, _ := y.m.Peek(y.cell); is != was {
		if !done || y.s.Rev(is) != e.Rev || e.Rev <= y.rev() || slices.Contains(y.ids, is) {
			y.fail("%+v comes, of the revision %d, the id %d", e, y.s.Rev(is), is)
		}
		y.note(e)
	}
	if done {
		y.now[i] = nil
		y.todo[i] = y.todo[i][1:]
		if n := y.times(e.Rev); n > 1 || n == 0 && y.rev() < e.Rev {
			y.fail("%+v is done, and there %d times", e, n)
		}
	}
	return done
}

// times is how often something of a revision is there.
func (y *yard) times(rev int) int {
	n := 0
	for _, e := range y.there {
		if e.Rev == rev {
			n++
		}
	}
	return n
}

// at is what there is at a revision, of the first ones of those that were put.
func (y *yard) at(n, rev int) answer {
	a := answer{}
	for _, e := range y.there[:n] {
		if e.Rev <= rev {
			a = told(e)
		}
	}
	return a
}

// holds looks that revisions rise, and that each version has at each revision what was put up to it: so what was there stays so.
func (y *yard) holds() {
	y.t.Helper()
	for n, id := range y.ids {
		if n > 0 && y.there[n].Rev <= y.there[n-1].Rev || y.s.Rev(id) != y.there[n].Rev {
			y.fail("%d is of the revision %d", id, y.s.Rev(id))
		}
		for _, r := range []int{math.MinInt, -1, 0, 1, 2, 3, 4, 5, 6, 7, y.rev(), math.MaxInt} {
			if is, want := at(y.s, id, r), y.at(n+1, r); is != want {
				y.fail("%d has %+v at %d, not %+v", id, is, r, want)
			}
			// Later ones change nothing at a revision that was there.
			if r <= y.there[n].Rev && at(y.s, id, r) != at(y.s, y.ids[len(y.ids)-1], r) {
				y.fail("what was there at %d isn't any more", r)
			}
		}
	}
}

// alone lets a thread go on to its end, with nobody else; each of its events is done in so few steps.
func (y *yard) alone(i int) {
	y.t.Helper()
	for most := 3; len(y.todo[i]) > 0; most = 2 {
		for n := 1; !y.step(i); n++ {
			if n >= most {
				y.fail("%d goes on alone, and isn't done", i)
			}
		}
	}
	y.holds()
}

// story is what threads put to a cell that has some versions, and how often one may be left in the midst for another one; ever so often, if that is below 0.
type story struct {
	t     testing.TB
	first []api.Event
	todo  [][]api.Event
	most  int
	ends  int
	seen  map[string]int // what was there at the ends
}

// play is a yard in which threads were picked.
func (x *story) play(turns []int) *yard {
	y := yardOf(x.t, x.first, x.todo...)
	for _, i := range turns {
		y.step(i)
	}
	return y
}

// from goes on in all turns; whoever stops there, or there, each of the others goes on to its end. As no Put can go back, each way is gone anew.
func (x *story) from(turns []int, left int) {
	x.t.Helper()
	y := x.play(turns)
	y.holds()
	on := y.on()
	if len(on) == 0 {
		x.ends++
		x.seen[fmt.Sprint(y.there)]++
		return
	}
	for _, i := range on {
		x.play(turns).alone(i)
		more := left
		if n := len(turns); n > 0 && turns[n-1] != i && len(y.todo[turns[n-1]]) > 0 {
			more++
		}
		if x.most < 0 || more <= x.most {
			x.from(append(slices.Clone(turns), i), more)
		}
	}
}

// inTurns lets threads put their events in all turns, and tells what came to be there, and how often.
func inTurns(t testing.TB, most int, first []api.Event, todo ...[]api.Event) map[string]int {
	t.Helper()
	x := &story{t: t, first: first, todo: todo, most: most, seen: map[string]int{}}
	x.from(nil, 0)
	if x.ends == 0 {
		t.Fatal("no way was gone")
	}
	return x.seen
}

func row(l ...api.Event) []api.Event { return l }

// P17.2: two that step by turns.

func TestTwoByTurns(t *testing.T) {
	for first := range 4 {
		for p := range 6 {
			for q := range 6 {
				for _, begin := range []int{0, 1} {
					var l []api.Event
					if first > 0 {
						l = row(put(first, "a", "f"))
					}
					y := yardOf(t, l, row(put(p, "a", "p")), row(del(q, "a")))
					for n := begin; len(y.on()) > 0; n++ {
						if i := n % 2; len(y.todo[i]) > 0 {
							y.step(i)
						}
					}
					y.holds()
					if y.steps[0] > 4 || y.steps[1] > 4 || y.steps[0]+y.steps[1] > 6 {
						y.fail("in %v steps", y.steps)
					}
					if y.rev() != max(first, p, q) {
						y.fail("the last revision is %d", y.rev())
					}
				}
			}
		}
	}
}

func TestTwoInAllTurns(t *testing.T) {
	for _, first := range [][]api.Event{nil, row(put(2, "a", "f")), row(put(1, "a", "e"), del(2, "a"))} {
		for p := 1; p < 5; p++ {
			for q := p; q < 5; q++ {
				was := fmt.Sprint(first)
				had := 0
				if len(first) > 0 {
					had = first[len(first)-1].Rev
				}
				low, high := put(p, "a", "p"), put(q, "a", "q")
				may := map[string]bool{}
				switch {
				case q <= had:
					may[was] = true
				case p <= had:
					may[fmt.Sprint(append(slices.Clone(first), high))] = true
				case p == q:
					may[fmt.Sprint(append(slices.Clone(first), low))] = true
					may[fmt.Sprint(append(slices.Clone(first), high))] = true
				default:
					may[fmt.Sprint(append(slices.Clone(first), low, high))] = true
					may[fmt.Sprint(append(slices.Clone(first), high))] = true
				}
				seen := inTurns(t, -1, first, row(low), row(high))
				for s := range seen {
					if !may[s] {
						t.Errorf("%d and %d upon %v: %s", p, q, first, s)
					}
				}
				if len(seen) != len(may) {
					t.Errorf("%d and %d upon %v: %v alone", p, q, first, seen)
				}
			}
		}
	}
}

// The chapter's example.
func TestExamplePutByTwoAtOnce(t *testing.T) {
	for _, first := range [][]api.Event{nil, row(put(3, "k", "u")), row(put(1, "k", "u"), del(3, "k"))} {
		for _, e := range []api.Event{put(4, "k", "v"), del(4, "k")} {
			seen := inTurns(t, -1, first, row(e), row(e))
			if len(seen) != 1 || seen[fmt.Sprint(append(slices.Clone(first), e))] == 0 {
				t.Errorf("%+v by two at once: %v", e, seen)
			}
			y := yardOf(t, first, row(e), row(e))
			for len(y.on()) > 0 {
				for _, i := range y.on() {
					y.step(i)
				}
			}
			n := uint64(len(first) + 1)
			if w, _ := y.m.Peek(y.cell); w != n || y.s.Rev(n) != 4 || y.s.Rev(n+1) != 0 {
				y.fail("the cell has %d, of the revision %d; the next one is of %d", w, y.s.Rev(n), y.s.Rev(n+1))
			}
		}
	}
}

// P17.3: by several.

func TestThreeInAllTurns(t *testing.T) {
	e := put(3, "a", "x")
	for _, c := range [][3]api.Event{
		{e, e, e},
		{e, e, put(4, "a", "y")},
		{e, e, put(2, "a", "w")},
		{put(2, "a", "w"), e, del(4, "a")},
	} {
		t.Run(fmt.Sprint(c), func(t *testing.T) {
			t.Parallel()
			for s := range inTurns(t, -1, row(put(1, "a", "f")), row(c[0]), row(c[1]), row(c[2])) {
				if s == fmt.Sprint(row(put(1, "a", "f"))) {
					t.Errorf("nothing was put: %s", s)
				}
			}
		})
	}
}

// Each of many puts all events, in the turn of their revisions: all of them are there, once.
func TestAllByManyInTheTurnOfTheirRevisions(t *testing.T) {
	l := row(put(1, "a", "x"), del(3, "a"), put(4, "a", "y"), put(7, "a", "z"))
	for _, c := range []struct{ threads, events, most int }{{2, 2, -1}, {2, 3, 5}, {2, 4, 4}, {3, 2, 3}, {3, 3, 2}, {4, 2, 2}} {
		t.Run(fmt.Sprint(c), func(t *testing.T) {
			t.Parallel()
			todo := make([][]api.Event, c.threads)
			for i := range todo {
				todo[i] = l[:c.events]
			}
			seen := inTurns(t, c.most, nil, todo...)
			if len(seen) != 1 || seen[fmt.Sprint(l[:c.events])] == 0 {
				t.Errorf("there were %v", seen)
			}
		})
	}
}

// Two that put other events: those that come too late aren't there.
func TestWhatComesTooLate(t *testing.T) {
	for s := range inTurns(t, -1, nil, row(put(1, "a", "x"), put(4, "a", "y")), row(put(2, "a", "z"), put(3, "a", "w"))) {
		switch s {
		case fmt.Sprint(row(put(1, "a", "x"), put(4, "a", "y"))):
		case fmt.Sprint(row(put(2, "a", "z"), put(4, "a", "y"))):
		case fmt.Sprint(row(put(2, "a", "z"), put(3, "a", "w"), put(4, "a", "y"))):
		case fmt.Sprint(row(put(1, "a", "x"), put(2, "a", "z"), put(4, "a", "y"))):
		case fmt.Sprint(row(put(1, "a", "x"), put(2, "a", "z"), put(3, "a", "w"), put(4, "a", "y"))):
		default:
			t.Errorf("there was %s", s)
		}
	}
}

// One stops behind each number of its steps, and another one, which may be at the same event, goes on to its end.
func TestWhoeverStops(t *testing.T) {
	l := row(put(1, "a", "x"), put(2, "a", "y"), del(3, "a"), put(4, "a", "z"))
	for stop := range 9 {
		for ahead := range 9 {
			y := yardOf(t, nil, l, l)
			for range ahead {
				if len(y.todo[1]) > 0 {
					y.step(1)
				}
			}
			for range stop {
				if len(y.todo[0]) > 0 {
					y.step(0)
				}
			}
			y.alone(1)
			if !slices.Equal(y.there, l) {
				y.fail("one that stopped held the other one up")
			}
			// It goes on after all, and finds nothing to do.
			y.alone(0)
			if !slices.Equal(y.there, l) {
				y.fail("it changed something")
			}
		}
	}
}

func TestDrawnTurns(t *testing.T) {
	for seed := range 1500 {
		r := rand.New(rand.NewSource(int64(seed)))
		var l []api.Event
		for rev := 1; rev < 12; rev++ {
			if r.Intn(4) > 0 {
				l = append(l, api.Event{Rev: rev, Key: "a", Val: fmt.Sprint(rev), Del: r.Intn(3) == 0})
			}
		}
		todo := make([][]api.Event, 2+r.Intn(api.MaxThreads-1))
		turning := r.Intn(2) == 0
		for i := range todo {
			for _, e := range l {
				if turning || r.Intn(2) == 0 {
					todo[i] = append(todo[i], e)
				}
			}
			if !turning && r.Intn(3) == 0 {
				r.Shuffle(len(todo[i]), func(a, b int) { todo[i][a], todo[i][b] = todo[i][b], todo[i][a] })
			}
		}
		y := yardOf(t, nil, todo...)
		stopped := map[int]bool{}
		for range 400 {
			on := slices.DeleteFunc(y.on(), func(i int) bool { return stopped[i] })
			if len(on) == 0 {
				break
			}
			i := on[r.Intn(len(on))]
			y.step(i)
			if len(on) > 1 && r.Intn(60) == 0 {
				stopped[i] = true
			}
		}
		y.holds()
		if turning && !slices.Equal(y.there, l) {
			y.fail("not %+v", l)
		}
	}
}

// P17.1 to P17.3: all that is done to a Store, held against the chapter's words.

// act does something to a book of two cells, of which the first is somebody's: it makes a Put, or steps one.
func act(b *book, n int, l []*entry) []*entry {
	switch n {
	case 0:
		return append(l, b.put(1, put(1, "a", "x")))
	case 1:
		return append(l, b.put(1, put(2, "a", "y")))
	case 2:
		return append(l, b.put(1, del(2, "a")))
	case 3:
		return append(l, b.put(0, put(3, "b", "z")))
	case 4:
		b.store(1, 1)
		return l
	}
	if i := n - 5; i < len(l) {
		b.step(l[i])
	}
	return l
}

// deep does all that can be done, so many acts on from others.
func deep(t *testing.T, acts []int, left int) {
	if left == 0 {
		b := bookOf(t, 1)
		b.cell()
		var l []*entry
		for _, n := range acts {
			l = act(b, n, l)
		}
		return
	}
	for n := range 8 {
		deep(t, append(acts, n), left-1)
	}
}

func TestAllWaysOfFiveActs(t *testing.T) {
	for n := range 8 {
		t.Run(fmt.Sprint(n), func(t *testing.T) {
			t.Parallel()
			deep(t, []int{n}, 4)
		})
	}
}

func TestDrawnWays(t *testing.T) {
	for seed := range 60 {
		t.Run(fmt.Sprint(seed), func(t *testing.T) {
			t.Parallel()
			drawn(t, rand.New(rand.NewSource(int64(seed))))
		})
	}
}

// drawn does much to a book, of few cells, some of which aren't there, or have what nobody put there.
func drawn(t *testing.T, r *rand.Rand) {
	b := bookOf(t, r.Intn(3))
	b.cell()
	wild := r.Intn(3) == 0
	var l []*entry
	for range 120 {
		switch n := r.Intn(20); {
		case n == 0 && len(b.cells) < 5:
			b.cell()
		case n == 1 && wild:
			b.store(r.Intn(len(b.cells)), uint64(r.Intn(len(b.refs)+8)))
		case n < 7:
			e := api.Event{Rev: r.Intn(30) - 1, Key: fmt.Sprint(r.Intn(3)), Val: fmt.Sprint(r.Intn(9)), Del: r.Intn(3) == 0}
			l = append(l, b.put(r.Intn(len(b.cells)+2)-1, e))
		case n == 7 && len(l) > 0:
			// One stops for good.
			i := r.Intn(len(l))
			l = slices.Delete(l, i, i+1)
		case len(l) > 0:
			b.step(l[r.Intn(len(l))])
		}
	}
}
