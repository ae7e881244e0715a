package bst_test

import (
	"fmt"
	"slices"
	"strings"
	"testing"

	"impost/api"
	"impost/bst"
	"impost/mem"
	"impost/order"
)

// world is a tree, and calls that are picked on it, with when they began, and were answered.
type world struct {
	t     testing.TB
	m     *mem.Mem
	x     *bst.Tree
	first []string
	deeds []deed
	calls []*bst.Call
	inv   []int // -1 of one that hasn't begun
	ret   []int // -1 of one that wasn't answered
	picks []int // their number is the clock
	notes []note

	// noted is whether there are notes: they are dear, and few tests look at them.
	noted bool
}

// note is what there is at a moment: the keys, and whether there is room for one more.
type note struct {
	keys []string
	room bool
}

// newWorld is one of a tree that has keys, and room for so many cells more (all, of a number below 0), and of calls that are made on it.
func newWorld(t testing.TB, first []string, room int, deeds ...deed) *world {
	m, x := planted(t, first...)
	if room >= 0 {
		m, x = cramped(t, room, first...)
	}
	w := &world{t: t, m: m, x: x, first: first, noted: room >= 0}
	for _, d := range deeds {
		w.make(d)
		w.noted = w.noted || d.kind == seek
	}
	w.note()
	return w
}

// make makes one more call, and tells its place.
func (w *world) make(d deed) int {
	w.deeds = append(w.deeds, d)
	w.calls = append(w.calls, d.on(w.x))
	w.inv = append(w.inv, -1)
	w.ret = append(w.ret, -1)
	return len(w.calls) - 1
}

// note notes what there is ahead of the next pick.
func (w *world) note() {
	if w.noted {
		w.notes = append(w.notes, note{w.x.Keys(), w.m.Len()+3 <= api.MaxCells})
	}
}

// pick lets a call step; whether it is done.
func (w *world) pick(i int) bool {
	if w.inv[i] < 0 {
		w.inv[i] = len(w.picks)
	}
	done := step(w.t, w.m, w.calls[i])
	if done && w.ret[i] < 0 {
		w.ret[i] = len(w.picks)
	}
	w.picks = append(w.picks, i)
	w.note()
	return done
}

// times picks a call so many times, or until it is done; whether it is.
func (w *world) times(i, n int) bool {
	for range n {
		if w.pick(i) {
			return true
		}
	}
	return false
}

// end lets a call go on to its end; in how many steps.
func (w *world) end(i int) int {
	for n := 1; ; n++ {
		if w.pick(i) {
			return n
		}
		if n > 1000 {
			w.t.Fatalf("%v: no end", w)
		}
	}
}

// on are the calls that aren't done.
func (w *world) on() []int {
	var l []int
	for i, r := range w.ret {
		if r < 0 {
			l = append(l, i)
		}
	}
	return l
}

func (w *world) answer(i int) bst.Answer {
	a, _ := w.calls[i].Answer()
	return a
}

func (w *world) String() string {
	var told []bst.Answer
	for i := range w.calls {
		told = append(told, w.answer(i))
	}
	return fmt.Sprintf("%q %v picked %v told %+v", w.first, w.deeds, w.picks, told)
}

// changing are the calls that have begun, but for seeks.
func (w *world) changing() []int {
	var l []int
	for i, d := range w.deeds {
		if w.inv[i] >= 0 && d.kind != seek {
			l = append(l, i)
		}
	}
	return l
}

// listed are calls as package order has them; one that found no room is as one that wasn't answered.
func (w *world) listed(l []int) []order.Call {
	var out []order.Call
	for _, i := range l {
		a := w.answer(i)
		c := order.Call{Kind: w.deeds[i].kind, Key: w.deeds[i].key, Ok: a.Ok, Inv: w.inv[i], Ret: w.ret[i]}
		if a.Err != api.OK {
			c.Ret = -1
		}
		out = append(out, c)
	}
	return out
}

// stands tells whether calls that are left can be done one behind the other, from a model on, such that each that was answered tells all that it told: that there is no room, where its key isn't there.
func (w *world) stands(now model, left []int) bool {
	if !slices.ContainsFunc(left, func(i int) bool { return w.ret[i] >= 0 }) {
		return true
	}
	for at, i := range left {
		if slices.ContainsFunc(left, func(j int) bool { return w.ret[j] >= 0 && w.ret[j] < w.inv[i] }) {
			continue
		}
		then := model{}
		for k, v := range now {
			then[k] = v
		}
		want := then.do(w.deeds[i])
		if w.answer(i).Err == api.ErrMem && want.Ok {
			then, want = now, bst.Answer{Err: api.ErrMem}
		}
		if w.ret[i] >= 0 && w.answer(i) != want {
			continue
		}
		if w.stands(then, slices.Delete(slices.Clone(left), at, at+1)) {
			return true
		}
	}
	return false
}

// fits looks that all that was told can have been told one behind the other: as package order has it, and with the numbers.
func (w *world) fits() {
	l := w.changing()
	if !order.Fits(w.first, w.listed(l)) || !w.stands(modelOf(w.first), l) {
		w.t.Fatalf("%v, from %v to %v: that doesn't fit", w, w.inv, w.ret)
	}
}

// settled looks that all that was told fits, and that what there is then, all calls done, fits to that.
func (w *world) settled() {
	w.fits()
	names := model{}
	for _, k := range w.first {
		names[k] = 0
	}
	for _, d := range w.deeds {
		names[d.key] = 0
	}
	there, l := model{}, w.changing()
	for _, k := range names.keys() {
		i := w.make(deed{find, k, 0})
		w.end(i)
		if a := w.answer(i); a.Ok {
			there[k] = a.Val
		}
		// A key's last find is held against all calls: there may be more keys than package order takes calls.
		if !w.stands(modelOf(w.first), append(slices.Clone(l), i)) || !order.Fits(w.first, w.listed(append(slices.Clone(l), i))) {
			w.t.Fatalf("%v, from %v to %v: what there is doesn't fit", w, w.inv, w.ret)
		}
	}
	holds(w.t, w, w.x, there)
}

// moments are what there was between a call's first step and its last one.
func (w *world) moments(i int) []note {
	return w.notes[w.inv[i] : w.ret[i]+2]
}

// sought looks that what a Seek told is what P15.3 says.
func (w *world) sought(i int) {
	a, k := w.answer(i), w.deeds[i].key
	if !a.Ok && a != (bst.Answer{}) || a.Ok && a.Key < k || a.Err != api.OK {
		w.t.Fatalf("%v: no such key may be told", w)
	}
	if a.Ok && !slices.ContainsFunc(w.moments(i), func(n note) bool { return slices.Contains(n.keys, a.Key) }) {
		w.t.Fatalf("%v: it never was there", w)
	}
	for _, b := range w.moments(i)[0].keys {
		if b >= k && (!a.Ok || b < a.Key) {
			w.t.Fatalf("%v: %q was there when it began", w, b)
		}
	}
	vals := modelOf(w.first)
	for j, d := range w.deeds {
		if d.kind == ins && w.answer(j).Ok {
			vals[d.key] = d.val
		}
	}
	if a.Ok && a.Val != vals[a.Key] {
		w.t.Fatalf("%v: it has another number", w)
	}
}

// refused looks that an Insert that found no room told that alone, and that there was a moment without room, and without its key.
func (w *world) refused(i int) {
	a, k := w.answer(i), w.deeds[i].key
	if a != (bst.Answer{Err: api.ErrMem}) || !slices.ContainsFunc(w.moments(i), func(n note) bool { return !n.room && !slices.Contains(n.keys, k) }) {
		w.t.Fatalf("%v: that can't be said at any moment", w)
	}
}

// each looks at what hangs on the moments between a call's steps.
func (w *world) each() {
	for i, d := range w.deeds {
		if d.kind == seek {
			w.sought(i)
		}
		if w.answer(i).Err != api.OK {
			w.refused(i)
		}
	}
}

// outcome is all that is told, and which calls were ahead of which.
func (w *world) outcome() string {
	s := fmt.Sprintf("%q", w.x.Keys())
	for i := range w.calls {
		s += fmt.Sprint(w.answer(i))
		for j := range w.calls {
			s += fmt.Sprint(w.ret[i] < w.inv[j])
		}
	}
	return s
}

// ways are those in which calls can be picked. Each that is looked at is gone anew from the begin, as no call can go back.
type ways struct {
	t     testing.TB
	first []string
	room  int
	deeds []deed
	most  int // how often a call may be left in the midst for another one; ever so often, if it is below 0
	done  int // how many were gone to their ends
	seen  map[string]int
}

// from goes on in all turns from a world, which is its own then. Steps of two calls that stand beside each other, and change no cell, are looked at in one turn alone: in the other one the same is seen (asleep are those that were looked at). A call's first step, and its last one, aren't such, as they say which calls are ahead of which.
func (y *ways) from(w *world, asleep []int, left int) {
	picks, on, in := slices.Clone(w.picks), w.on(), -1
	if n := len(picks); n > 0 && slices.Contains(on, picks[n-1]) {
		in = picks[n-1]
	}
	if len(on) == 0 {
		y.done++
		w.each()
		if o := w.outcome(); y.seen[o] == 0 {
			y.seen[o]++
			w.settled()
		}
		return
	}
	for _, i := range on {
		more := left
		if in >= 0 && in != i {
			more++
		}
		if slices.Contains(asleep, i) || y.most >= 0 && more > y.most {
			continue
		}
		if w == nil {
			w = newWorld(y.t, y.first, y.room, y.deeds...)
			for _, p := range picks {
				w.pick(p)
			}
		}
		then := w
		w = nil
		if y.most >= 0 {
			then.pick(i)
			y.from(then, nil, more)
			continue
		}
		begins, was := then.inv[i] < 0, state(then.m)
		ends := then.pick(i)
		if begins || ends || !slices.Equal(state(then.m), was) {
			y.from(then, nil, more)
			continue
		}
		y.from(then, asleep, more)
		asleep = append(slices.Clone(asleep), i)
	}
}

// inTurns lets calls go on in all turns in which one is left in the midst so often at most, and looks that all fits. It tells what came of them.
func inTurns(t testing.TB, most int, first []string, room int, deeds ...deed) map[string]int {
	t.Helper()
	y := &ways{t: t, first: first, room: room, deeds: deeds, most: most, seen: map[string]int{}}
	y.from(newWorld(t, first, room, deeds...), nil, 0)
	if y.done == 0 {
		t.Fatal("no way was gone")
	}
	return y.seen
}

// each pair of some calls, and each with itself; those that insert have numbers of their own.
func pairs(l []deed, do func(a, b deed)) {
	for i, a := range l {
		for _, b := range l[i:] {
			a.val, b.val = 1, 2
			do(a, b)
		}
	}
}

// about are calls of some keys: each key's inserted, found, sought, and deleted, if it may be there.
func about(first []string, l ...string) []deed {
	var out []deed
	for _, k := range l {
		out = append(out, deed{ins, k, 0}, deed{find, k, 0}, deed{seek, k, 0})
		if slices.Contains(first, k) {
			out = append(out, deed{del, k, 0})
		}
	}
	return out
}

// changes are those of some calls that may change something.
func changes(l []deed) []deed {
	return slices.DeleteFunc(slices.Clone(l), func(d deed) bool { return d.kind >= find })
}

// apart tells whether two calls have nothing to say to each other: two that change nothing, or a Seek, of which nothing is promised then, beside a deletion.
func apart(a, b deed) bool {
	return a.kind >= find && b.kind >= find || a.kind == seek && b.kind == del || a.kind == del && b.kind == seek
}

// P15.2 and P15.4: two at once.

func TestExampleAtOnce(t *testing.T) {
	for _, first := range [][]string{nil, keys("m"), keys("a"), keys("m", "a"), keys("a", "m", "z")} {
		for _, k := range keys("k", "x", "") {
			w := newWorld(t, first, -1, deed{ins, k, 1}, deed{ins, k, 2})
			for len(w.on()) > 0 {
				for _, i := range w.on() {
					w.pick(i)
				}
			}
			a, b := w.answer(0), w.answer(1)
			if a.Ok == b.Ok || a.Key != k || b.Key != k || a.Val != b.Val || a.Val != 1 && a.Val != 2 || a.Ok != (a.Val == 1) {
				t.Errorf("%q inserted at once: %+v, %+v", k, a, b)
			}
			w.settled()
		}
	}
}

func TestTwoAtOnceInAllTurns(t *testing.T) {
	for _, first := range [][]string{nil, keys("b")} {
		t.Run(fmt.Sprint(first), func(t *testing.T) {
			t.Parallel()
			pairs(append(about(keys("b"), "b"), about(keys("a"), "a", "c")...), func(a, b deed) {
				if !apart(a, b) {
					inTurns(t, -1, first, -1, a, b)
				}
			})
		})
	}
	// A parent and a grandparent that both have to do with.
	for _, c := range []struct {
		first []string
		a, b  deed
	}{
		{keys("b", "d"), deed{del, "b", 0}, deed{del, "d", 0}},
		{keys("b", "d"), deed{del, "d", 0}, deed{ins, "c", 1}},
		{keys("d", "b"), deed{del, "b", 0}, deed{ins, "e", 1}},
		{keys("b", "d", "f"), deed{del, "f", 0}, deed{del, "d", 0}},
	} {
		t.Run(fmt.Sprint(c.first, c.a, c.b), func(t *testing.T) {
			t.Parallel()
			inTurns(t, -1, c.first, -1, c.a, c.b)
		})
	}
}

func TestTwoAtOnceOnSmallTrees(t *testing.T) {
	for _, first := range append(orders(keys("b", "d")), orders(keys("b", "d", "f"))...) {
		t.Run(fmt.Sprint(first), func(t *testing.T) {
			t.Parallel()
			most := 5 - len(first)
			pairs(about(first, keys("a", "b", "c", "d", "e", "f", "g")[:2*len(first)+1]...), func(a, b deed) {
				if !apart(a, b) {
					inTurns(t, most, first, -1, a, b)
				}
			})
		})
	}
}

// P15.2 and P15.4: three and more at once.

func TestThreeAtOnce(t *testing.T) {
	for _, first := range append(orders(keys("b", "d")), nil, keys("b"), keys("d", "b", "f")) {
		t.Run(fmt.Sprint(first), func(t *testing.T) {
			t.Parallel()
			l := changes(about(append(keys("a"), first...), keys("a", "b", "c", "d", "e")[:min(5, 2*len(first)+1)]...))
			pairs(append(l, deed{find, "b", 0}), func(a, b deed) {
				for _, c := range l {
					c.val = 3
					inTurns(t, 1+2/(1+len(first)), first, -1, a, b, c)
				}
			})
		})
	}
	for _, c := range []struct {
		first []string
		l     []deed
	}{
		{nil, []deed{{ins, "a", 1}, {ins, "a", 2}, {ins, "a", 3}}},
		{keys("a"), []deed{{del, "a", 0}, {del, "a", 0}, {ins, "a", 3}}},
		{keys("a"), []deed{{del, "a", 0}, {ins, "a", 2}, {find, "a", 0}}},
		{keys("a", "b"), []deed{{del, "a", 0}, {del, "b", 0}, {ins, "c", 3}}},
		{keys("a", "b"), []deed{{del, "a", 0}, {ins, "a", 2}, {del, "b", 0}}},
		{keys("a", "b", "c"), []deed{{del, "c", 0}, {del, "b", 0}, {del, "a", 0}}},
		{keys("c", "b", "a"), []deed{{del, "c", 0}, {del, "b", 0}, {del, "a", 0}}},
		{keys("c", "a", "b"), []deed{{del, "b", 0}, {ins, "bb", 2}, {del, "a", 0}}},
	} {
		t.Run(fmt.Sprint(c.first, c.l), func(t *testing.T) {
			t.Parallel()
			inTurns(t, 3, c.first, -1, c.l...)
		})
	}
}

// story lets threads make calls, one behind the other, of some keys, and be picked as it is drawn; some stop for good. At most 11 calls: package order takes no more than these, and a find behind them.
func story(t *testing.T, d *draw, first []string, names []string) {
	w := newWorld(t, first, -1)
	threads := 2 + d.next(4)
	at := make([]int, threads)
	stops := make([]bool, threads)
	made, all := 0, 2+d.next(10)
	for i := range at {
		at[i] = -1
		stops[i] = i > 0 && d.next(6) == 0
	}
	for going := true; going; {
		i := d.next(threads)
		for range 1 + d.next(1+d.next(12)) {
			if at[i] < 0 && made < all {
				kind := []int{ins, ins, ins, del, del, del, find}[d.next(7)]
				at[i] = w.make(deed{kind, names[d.next(len(names))], uint64(made)})
				made++
			}
			if at[i] < 0 || stops[i] && d.next(15) == 0 {
				break
			}
			if w.pick(at[i]) {
				at[i] = -1
			}
		}
		going = made < all
		for i := range at {
			going = going || at[i] >= 0 && !stops[i]
		}
	}
	w.fits()
	for _, i := range w.on() {
		w.end(i)
	}
	w.settled()
}

func TestManyAtOnce(t *testing.T) {
	for seed := range 8 {
		t.Run(fmt.Sprint(seed), func(t *testing.T) {
			t.Parallel()
			d := draw(seed + 100)
			for range 2500 {
				names := keys("", "a", "b", "c", "d", "e", "\xff")[:1+d.next(7)]
				var first []string
				for _, k := range names {
					if d.next(2) == 0 {
						first = slices.Insert(first, d.next(len(first)+1), k)
					}
				}
				story(t, &d, first, names)
			}
		})
	}
}

// Many threads at once, for long, on one tree: whatever they tell of each key, one by one, fits what is there then.
func TestManyForLong(t *testing.T) {
	for seed := range 4 {
		d := draw(seed)
		names := named(3 + 10*seed)
		m, x := planted(t, names...)
		there := map[string]int{}
		for _, k := range names {
			there[k] = 1
		}
		deeds, calls := make([]deed, 8), make([]*bst.Call, 8)
		for n := range 40000 {
			i := d.next(8)
			if calls[i] == nil && n < 39000 {
				deeds[i] = deed{1 + d.next(3), names[d.next(len(names))], uint64(n)}
				calls[i] = deeds[i].on(x)
			}
			if calls[i] == nil || !step(t, m, calls[i]) {
				continue
			}
			a, _ := calls[i].Answer()
			calls[i] = nil
			if a.Ok && deeds[i].kind == ins {
				there[a.Key]++
			}
			if a.Ok && deeds[i].kind == del {
				there[a.Key]--
			}
		}
		for i, c := range calls {
			if c != nil {
				t.Fatalf("%v isn't done", deeds[i])
			}
		}
		now := model{}
		for k, n := range there {
			if n != 0 && n != 1 {
				t.Errorf("%q was inserted %d times more than deleted", k, n)
			}
			if n == 1 {
				now[k] = 0
			}
		}
		holds(t, seed, x, now)
	}
}

// Picked by turns, as long as no new calls begin, all end.
func TestAllEnd(t *testing.T) {
	d := draw(7)
	for range 3000 {
		names := keys("a", "b", "c", "d", "e", "f")[:1+d.next(6)]
		var first []string
		for _, k := range names {
			if d.next(2) == 0 {
				first = slices.Insert(first, d.next(len(first)+1), k)
			}
		}
		w := newWorld(t, first, -1)
		for i := range 8 {
			w.make(deed{1 + d.next(3), names[d.next(len(names))], uint64(i)})
			w.times(i, d.next(14))
		}
		for round := 0; len(w.on()) > 0; round++ {
			for _, i := range w.on() {
				w.pick(i)
			}
			if round > 200 {
				t.Fatalf("%v: no end", w)
			}
		}
		w.settled()
	}
}

// P15.2 and P15.4: a call that stands still in the midst, while others go on, and end.

// stills are points at which a call stands still: all those at which it isn't done yet.
func stills(t *testing.T, first []string, d deed, do func(w *world)) {
	for at := 1; ; at++ {
		w := newWorld(t, first, -1, d)
		if w.times(0, at) {
			return
		}
		do(w)
	}
}

func TestOneStandsStill(t *testing.T) {
	for _, first := range append(orders(keys("b", "d", "f")), nil, keys("b"), keys("b", "d"), keys("d", "b")) {
		t.Run(fmt.Sprint(first), func(t *testing.T) {
			t.Parallel()
			l := about(first, keys("a", "b", "c", "d", "e", "f", "g")[:2*len(first)+1]...)
			l = slices.DeleteFunc(l, func(d deed) bool { return d.kind == seek })
			for _, a := range changes(l) {
				for _, b := range l {
					for _, c := range l {
						a.val, b.val, c.val = 1, 2, 3
						stills(t, first, a, func(w *world) {
							n := len(w.x.Keys())
							if s := w.end(w.make(b)); s > 16+4*n {
								t.Fatalf("%v: %d steps", w, s)
							}
							n = len(w.x.Keys())
							if s := w.end(w.make(c)); s > 16+4*n {
								t.Fatalf("%v: %d steps", w, s)
							}
							w.fits()
							w.end(0)
							w.settled()
						})
					}
				}
			}
		})
	}
}

// What was begun by one who stands still is done by who comes by: an Insert, or a Delete, beside it.
func TestWhoComesByHelps(t *testing.T) {
	for _, c := range []struct {
		first []string
		still deed
		by    deed
		there []string
	}{
		{nil, deed{ins, "m", 1}, deed{ins, "a", 2}, keys("a", "m")},
		{keys("m"), deed{ins, "a", 1}, deed{ins, "z", 2}, keys("a", "m", "z")},
		{keys("m"), deed{ins, "z", 1}, deed{del, "m", 0}, keys("z")},
		{keys("m", "a"), deed{del, "a", 0}, deed{ins, "z", 2}, keys("m", "z")},
		{keys("m", "z"), deed{del, "z", 0}, deed{del, "m", 0}, nil},
		{keys("m", "z"), deed{del, "m", 0}, deed{del, "z", 0}, nil},
		{keys("m", "d", "a"), deed{del, "a", 0}, deed{del, "m", 0}, keys("d")},
	} {
		helped := 0
		stills(t, c.first, c.still, func(w *world) {
			begun := slices.Equal(w.x.Keys(), modelOf(c.first).keys())
			w.end(w.make(c.by))
			if begun && slices.Equal(w.x.Keys(), c.there) {
				helped++
			}
			w.end(0)
			w.settled()
			if !slices.Equal(w.x.Keys(), c.there) {
				t.Errorf("%v: keys %q", w, w.x.Keys())
			}
		})
		if helped == 0 {
			t.Errorf("%q, %v, %v: nobody helped", c.first, c.still, c.by)
		}
	}
}

// A Find, or a Seek, changes nothing, also where it comes by something that was begun; and it isn't held up by it.
func TestFindsHelpNobody(t *testing.T) {
	for _, first := range append(orders(keys("b", "d", "f")), nil, keys("b")) {
		for _, a := range changes(about(first, "a", "b", "c", "d", "e", "f", "g")) {
			stills(t, first, a, func(w *world) {
				was, there := state(w.m), modelOf(w.x.Keys())
				if _, in := modelOf(first)[a.key]; !in {
					there[a.key] = a.val
				}
				for _, k := range keys("", "a", "b", "c", "d", "e", "f", "g", "h") {
					for _, kind := range []int{find, seek} {
						i := w.make(deed{kind, k, 0})
						if s := w.end(i); s > len(first)+4 {
							t.Fatalf("%v: %d steps", w, s)
						}
						now := model{}
						for _, k := range w.x.Keys() {
							now[k] = there[k]
						}
						same(t, w, w.answer(i), now.do(w.deeds[i]))
					}
				}
				if !slices.Equal(state(w.m), was) {
					t.Fatalf("%v: cells were changed", w)
				}
			})
		}
	}
}

// A Delete whose parent's word isn't what it was, as another one inserted beside it meanwhile, begins anew.
func TestDeleteBeginsAnew(t *testing.T) {
	for _, c := range []struct {
		first []string
		k, by string
	}{
		{keys("m", "z"), "m", "y"},
		{keys("m", "z"), "z", "a"},
		{keys("m", "z", "t"), "t", "o"},
		{keys("z", "m", "d"), "d", "f"},
		{keys("m"), "m", "x"},
	} {
		alone := newWorld(t, c.first, -1, deed{del, c.k, 0}).end(0)
		anew := 0
		stills(t, c.first, deed{del, c.k, 0}, func(w *world) {
			at := len(w.picks)
			w.end(w.make(deed{ins, c.by, 5}))
			if at+w.end(0) > alone+3 && w.answer(0).Ok {
				anew++
			}
			w.settled()
		})
		if anew == 0 {
			t.Errorf("%q: %q wasn't begun anew", c.first, c.k)
		}
	}
}

// P15.2: no room, at once.

func TestTheLastRoomAtOnce(t *testing.T) {
	for _, c := range []struct {
		first []string
		room  int
		l     []deed
		most  int
		full  bool // whether one is told that there is no room, in some turns
	}{
		{nil, 2, []deed{{ins, "a", 1}, {ins, "a", 2}}, 3, true},
		{nil, 3, []deed{{ins, "a", 1}, {ins, "a", 2}}, 3, true},
		{nil, 3, []deed{{ins, "a", 1}, {ins, "b", 2}}, 3, true},
		{nil, 5, []deed{{ins, "b", 1}, {ins, "a", 2}}, 2, true},
		{nil, 6, []deed{{ins, "a", 1}, {ins, "b", 2}}, 2, false},
		{keys("m"), 3, []deed{{ins, "a", 1}, {ins, "z", 2}}, 3, true},
		{keys("m"), 3, []deed{{ins, "a", 1}, {del, "m", 0}}, 3, false},
		{keys("m"), 2, []deed{{ins, "a", 1}, {del, "m", 0}}, 2, true},
		{keys("m"), 1, []deed{{ins, "m", 1}, {del, "m", 0}}, 3, true},
		{keys("m"), 3, []deed{{ins, "m", 1}, {del, "m", 0}, {ins, "m", 2}}, 1, true},
		{nil, 3, []deed{{ins, "a", 1}, {ins, "a", 2}, {ins, "b", 3}}, 2, true},
		{nil, 6, []deed{{ins, "a", 1}, {ins, "a", 2}, {ins, "b", 3}}, 2, true}, // where it is a's room that is left, and a isn't there yet
		{nil, 9, []deed{{ins, "a", 1}, {ins, "a", 2}, {ins, "b", 3}}, 2, false},
		{nil, 6, []deed{{ins, "a", 1}, {ins, "a", 2}, {ins, "b", 3}, {ins, "c", 4}}, 1, true},
	} {
		t.Run(fmt.Sprint(c.first, c.room, c.l), func(t *testing.T) {
			full := false
			for o := range inTurns(t, c.most, c.first, c.room, c.l...) {
				full = full || strings.Contains(o, fmt.Sprint(bst.Answer{Err: api.ErrMem}))
			}
			if full != c.full {
				t.Errorf("no room: %v", full)
			}
		})
	}
}

// An Insert that looks into what isn't part of the tree any more, and finds its key nowhere there, isn't told that there is no room, where there was some as long as its key wasn't there.
func TestNoRoomIsToldOfOneMoment(t *testing.T) {
	for room := range 10 {
		for at := range 10 {
			w := newWorld(t, keys("m", "z"), room, deed{ins, "a", 1})
			if w.times(0, at) {
				continue
			}
			for _, d := range []deed{{del, "z", 0}, {ins, "a", 2}, {ins, "q", 3}} {
				w.end(w.make(d))
			}
			w.end(0)
			w.each()
			w.settled()
		}
	}
}

// However many insert one key at once, the tree takes three cells for it, and not one for those who find it there.
func TestCellsThatAreTakenAtOnce(t *testing.T) {
	d := draw(3)
	for range 2000 {
		names := keys("a", "b", "c")[:1+d.next(3)]
		w := newWorld(t, keys("m")[:d.next(2)], -1)
		was := w.m.Len()
		for i := range 6 {
			w.make(deed{ins, names[d.next(len(names))], uint64(i)})
		}
		for len(w.on()) > 0 {
			w.times(w.on()[d.next(len(w.on()))], 1+d.next(6))
		}
		if n := w.m.Len() - was; n != 3*(len(w.x.Keys())-len(w.first)) {
			t.Fatalf("%v: %d cells more", w, n)
		}
	}
}

// P15.3, at once.

func TestSeekAtOnceInAllTurns(t *testing.T) {
	for _, first := range append(orders(keys("b", "d")), nil, keys("b")) {
		t.Run(fmt.Sprint(first), func(t *testing.T) {
			t.Parallel()
			for _, k := range keys("a", "b", "c", "d", "e") {
				for _, a := range keys("", "a", "b", "c", "cc", "e", "f") {
					inTurns(t, -1, first, -1, deed{seek, k, 0}, deed{ins, a, 1})
				}
			}
		})
	}
}

// Keys come meanwhile below, and above, the one that is to be told.
func TestSeekWhileTwoInsert(t *testing.T) {
	for _, first := range append(orders(keys("b", "d", "f")), nil, keys("d"), keys("b", "f")) {
		t.Run(fmt.Sprint(first), func(t *testing.T) {
			t.Parallel()
			for _, k := range keys("a", "c", "d", "g") {
				pairs([]deed{{ins, "a", 0}, {ins, "c", 0}, {ins, "cc", 0}, {ins, "e", 0}, {ins, "g", 0}, {ins, "h", 0}}, func(a, b deed) {
					inTurns(t, 1, first, -1, deed{seek, k, 0}, a, b)
				})
			}
		})
	}
}

func TestSeekWhileManyInsert(t *testing.T) {
	d := draw(5)
	names := named(12)
	for range 4000 {
		var first []string
		for _, k := range names {
			if d.next(3) == 0 {
				first = slices.Insert(first, d.next(len(first)+1), k)
			}
		}
		var l []deed
		for i := range 2 + d.next(4) {
			l = append(l, deed{ins, names[d.next(len(names))], uint64(i)})
		}
		l[0].kind = seek
		w := newWorld(t, first, -1, l...)
		for len(w.on()) > 0 {
			w.times(w.on()[d.next(len(w.on()))], 1+d.next(5))
		}
		w.each()
		w.settled()
	}
}

// Of a Seek beside which others delete nothing is promised, but that it ends, and that it changes nothing.
func TestSeekWhileOthersDelete(t *testing.T) {
	for _, first := range append(orders(keys("b", "d", "f")), keys("b"), keys("d", "b")) {
		for _, k := range keys("", "b", "c", "d", "e", "f", "g") {
			for at := range 8 {
				w := newWorld(t, first, -1, deed{seek, k, 0})
				w.times(0, at)
				for i, gone := range first {
					w.end(w.make(deed{del, gone, 0}))
					w.end(w.make(deed{ins, gone + "x", uint64(i)}))
					w.times(0, 1)
				}
				was := state(w.m)
				w.end(0)
				if !slices.Equal(state(w.m), was) {
					t.Fatalf("%v: cells were changed", w)
				}
				w.settled()
			}
		}
	}
}
