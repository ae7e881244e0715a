package crowd_test

import (
	"fmt"
	"math"
	"slices"
	"strings"
	"testing"

	"impost/api"
	"impost/bst"
	"impost/crowd"
	"impost/mem"
	"impost/order"
)

// Kinds of calls: package order's, and one that it has no name for.
const (
	ins  = order.Insert
	del  = order.Delete
	find = order.Find
	seek = 4
)

// deed is a call that may be made.
type deed struct {
	kind int
	key  string
}

func (d deed) on(t *bst.Tree) *bst.Call {
	switch d.kind {
	case ins:
		return t.Insert(d.key, 7)
	case del:
		return t.Delete(d.key)
	case find:
		return t.Find(d.key)
	}
	return t.Seek(d.key)
}

func (d deed) String() string {
	return fmt.Sprintf("%c%q", " IDFS"[d.kind], d.key)
}

func keys(l ...string) []string { return l }

// planted is a tree that has keys, inserted in turn.
func planted(t testing.TB, l ...string) (*mem.Mem, *bst.Tree) {
	m := mem.New(0)
	x := bst.New(m)
	for _, k := range l {
		if a := bst.Run(x.Insert(k, 5)); !a.Ok {
			t.Fatalf("planting %q of %q: %+v", k, l, a)
		}
	}
	return m, x
}

// cramped is a tree that has keys, and room for so many cells more.
func cramped(t testing.TB, room int, l ...string) (*mem.Mem, *bst.Tree) {
	m, x := planted(t, l...)
	if _, err := m.Grow(api.MaxCells - m.Len() - room); err != api.OK {
		t.Fatalf("taking all room but %d: %v", room, err)
	}
	return m, x
}

// cells are what all cells have.
func cells(m *mem.Mem) []uint64 {
	l := make([]uint64, m.Len())
	for a := range l {
		l[a], _ = m.Peek(a)
	}
	return l
}

// odd are numbers that no thread has, and those of threads.
func odd() []int {
	l := []int{math.MinInt, math.MinInt + 1, -1 << 32, -256, math.MaxInt - 1, math.MaxInt, 1 << 32, 256, 1<<32 + 1}
	for n := range 20 {
		l = append(l, n-5)
	}
	return l
}

// twin is a call, and one of the same deed on another tree that is just like its own: that one is stepped by hand.
type twin struct {
	call, other *bst.Call
	place       int
}

// book is a Crowd on a tree, and what the chapter's words make of it.
type book struct {
	t     testing.TB
	c     *crowd.Crowd
	m, n  *mem.Mem
	x, y  *bst.Tree
	has   []*twin
	calls []order.Call
	clock int
	story []string
}

// bookOf is one of so many threads, on a tree that has keys.
func bookOf(t testing.TB, threads int, first ...string) *book {
	b := &book{t: t, c: crowd.New(threads), has: make([]*twin, threads)}
	b.m, b.x = planted(t, first...)
	b.n, b.y = planted(t, first...)
	b.check()
	return b
}

func (b *book) fail(format string, l ...any) {
	b.t.Helper()
	b.t.Fatalf("%s: %s", strings.Join(b.story, " "), fmt.Sprintf(format, l...))
}

// thread tells whether there is a thread of a number.
func (b *book) thread(t int) bool { return t >= 0 && t < len(b.has) }

// check looks that all that the Crowd tells is what the book says, and that the trees are alike.
func (b *book) check() {
	b.t.Helper()
	if l := b.c.Calls(); !slices.Equal(l, b.calls) {
		b.fail("calls %+v, not %+v", l, b.calls)
	}
	if n := b.c.Clock(); n != b.clock {
		b.fail("the clock is %d, not %d", n, b.clock)
	}
	for t := -2; t < len(b.has)+3; t++ {
		if is, want := b.c.Idle(t), b.thread(t) && b.has[t] == nil; is != want {
			b.fail("%d idle: %v", t, is)
		}
	}
	if b.m.Count() != b.n.Count() || !slices.Equal(cells(b.m), cells(b.n)) {
		b.fail("the calls didn't step as they should: %d cells were asked, not %d", b.m.Count(), b.n.Count())
	}
	for t, h := range b.has {
		if h == nil {
			continue
		}
		a, told := h.call.Answer()
		if want, wanted := h.other.Answer(); a != want || told != wanted {
			b.fail("the call of %d was told %+v, %v, not %+v, %v", t, a, told, want, wanted)
		}
	}
}

// made is a call of a deed that has done nothing.
func (b *book) made(d deed) *twin {
	return &twin{call: d.on(b.x), other: d.on(b.y)}
}

// begin offers a thread a call, nil or not, by the name of a kind and a key.
func (b *book) begin(t int, h *twin, kind int, k string) api.Errno {
	b.t.Helper()
	b.story = append(b.story, fmt.Sprintf("begin(%d, %v, %d, %q)", t, h != nil, kind, k))
	want, x := api.OK, (*bst.Call)(nil)
	if h != nil {
		x = h.call
	}
	switch {
	case !b.thread(t) || h == nil:
		want = api.ErrArg
	case b.has[t] != nil:
		want = api.ErrBusy
	default:
		h.place = len(b.calls)
		b.has[t] = h
		b.calls = append(b.calls, order.Call{Kind: kind, Key: k, Ok: false, Inv: b.clock, Ret: -1})
		b.clock++
	}
	err := b.c.Begin(t, x, kind, k)
	if err != want {
		b.fail("begun: %v, not %v", err, want)
	}
	b.check()
	return err
}

// do offers a thread a call of a deed.
func (b *book) do(t int, d deed) api.Errno {
	b.t.Helper()
	return b.begin(t, b.made(d), d.kind, d.key)
}

// pick picks a thread; whether it had a call.
func (b *book) pick(t int) bool {
	b.t.Helper()
	b.story = append(b.story, fmt.Sprint("pick ", t))
	want := b.thread(t) && b.has[t] != nil
	var h *twin
	if want {
		h = b.has[t]
		if h.other.Step() {
			if a, _ := h.other.Answer(); a.Err == api.OK {
				b.calls[h.place].Ok, b.calls[h.place].Ret = a.Ok, b.clock
			}
			b.has[t] = nil
		}
		b.clock++
	}
	if b.c.Pick(t) != want {
		b.fail("picked: not %v", want)
	}
	if want {
		_, told := h.call.Answer()
		if _, wanted := h.other.Answer(); told != wanted {
			b.fail("done: %v", told)
		}
	}
	b.check()
	return want
}

// end picks a thread until it has no call; in how many picks.
func (b *book) end(t int) int {
	b.t.Helper()
	for n := 0; ; n++ {
		if b.c.Idle(t) {
			return n
		}
		if n > 1000 {
			b.fail("no end")
		}
		b.pick(t)
	}
}

// P16.1: New.

func TestNew(t *testing.T) {
	for _, n := range odd() {
		c := crowd.New(n)
		if (c != nil) != (n >= 1 && n <= api.MaxThreads) {
			t.Fatalf("of %d threads: %v", n, c)
		}
		if c == nil {
			continue
		}
		if l := c.Calls(); len(l) != 0 || c.Clock() != 0 {
			t.Errorf("of %d threads: calls %v, the clock %d", n, l, c.Clock())
		}
		for _, i := range odd() {
			if is := i >= 0 && i < n; c.Idle(i) != is {
				t.Errorf("of %d threads: %d idle: %v", n, i, !is)
			}
		}
	}
}

func TestAllThreadsCanHaveACall(t *testing.T) {
	for n := 1; n <= api.MaxThreads; n++ {
		b := bookOf(t, n, "m")
		for _, i := range odd() {
			b.do(i, deed{find, "m"})
		}
		if len(b.calls) != n {
			b.fail("%d calls of %d threads", len(b.calls), n)
		}
		for _, i := range odd() {
			b.pick(i)
		}
		for i := range n {
			b.end(i)
		}
	}
}

func TestCrowdsAreApart(t *testing.T) {
	b, d := bookOf(t, 2), bookOf(t, 2)
	b.do(0, deed{ins, "a"})
	b.pick(0)
	d.check()
	d.do(1, deed{del, "a"})
	b.check()
	b.end(0)
	d.end(1)
	b.check()
}

// P16.1: Begin.

func TestBegin(t *testing.T) {
	b := bookOf(t, 3)
	h := b.made(deed{ins, "a"})
	if err := b.begin(1, h, ins, "a"); err != api.OK {
		t.Fatalf("begun: %v", err)
	}
	want := []order.Call{{Kind: ins, Key: "a", Inv: 0, Ret: -1}}
	if l := b.c.Calls(); !slices.Equal(l, want) || b.c.Clock() != 1 {
		t.Errorf("calls %+v, the clock %d", l, b.c.Clock())
	}
	if b.c.Idle(1) || !b.c.Idle(0) || !b.c.Idle(2) {
		t.Error("it isn't the thread 1 that has the call")
	}
	if _, told := h.call.Answer(); told || b.m.Count() != 0 {
		t.Errorf("a call that begins has stepped: done is %v, %d cells were asked", told, b.m.Count())
	}
	b.do(2, deed{del, "a"})
	b.do(0, deed{find, "b"})
	want = append(want, order.Call{Kind: del, Key: "a", Inv: 1, Ret: -1}, order.Call{Kind: find, Key: "b", Inv: 2, Ret: -1})
	if l := b.c.Calls(); !slices.Equal(l, want) || b.c.Clock() != 3 {
		t.Errorf("calls %+v, the clock %d", l, b.c.Clock())
	}
}

// The clock that a call began at counts picks, too.
func TestBeginsAtTheClock(t *testing.T) {
	b := bookOf(t, 2, "m")
	for n := range 9 {
		b.do(0, deed{find, "m"})
		for range n {
			b.pick(0)
		}
		was := b.c.Clock()
		b.do(1, deed{find, "m"})
		l := b.c.Calls()
		if c := l[len(l)-1]; c.Inv != was || c.Ret != -1 || b.c.Clock() != was+1 {
			b.fail("%+v began at %d; then the clock was %d", c, was, b.c.Clock())
		}
		b.end(0)
		b.end(1)
	}
}

// What a call is noted as is what Begin is told, whatever that is, and whatever the call is of.
func TestNotedAsItIsTold(t *testing.T) {
	kinds := []int{ins, del, find, seek, 0, -1, 5, math.MinInt, math.MaxInt}
	for _, kind := range kinds {
		for _, k := range keys("", "a", "a\x00", "\xff\xfe", "z\xff", strings.Repeat("k", 9), strings.Repeat("k", 300)) {
			for _, d := range []deed{{ins, "a"}, {ins, "b"}, {del, "b"}, {find, "b"}, {seek, ""}} {
				b := bookOf(t, 1, "b")
				b.begin(0, b.made(d), kind, k)
				b.end(0)
				a, _ := d.on(b.y).Answer()
				if c := b.c.Calls()[0]; c.Kind != kind || c.Key != k || c.Inv != 0 || a.Ok {
					b.fail("noted as %+v", c)
				}
			}
		}
	}
}

func TestBeginRefused(t *testing.T) {
	for _, c := range []struct {
		t    int
		none bool // whether the call that is offered is nil
		want api.Errno
	}{
		{-1, false, api.ErrArg},
		{2, false, api.ErrArg},
		{3, false, api.ErrArg},
		{8, false, api.ErrArg},
		{math.MinInt, false, api.ErrArg},
		{math.MaxInt, false, api.ErrArg},
		{1 << 32, false, api.ErrArg},
		{0, true, api.ErrArg}, // idle
		{1, true, api.ErrArg}, // that has a call
		{-1, true, api.ErrArg},
		{2, true, api.ErrArg},
		{1, false, api.ErrBusy},
	} {
		b := bookOf(t, 2)
		b.do(1, deed{ins, "a"})
		b.pick(1)
		before, clock := b.c.Calls(), b.c.Clock()
		var x *bst.Call
		if !c.none {
			x = b.x.Insert("b", 1)
		}
		if err := b.c.Begin(c.t, x, ins, "b"); err != c.want {
			t.Errorf("%+v: %v", c, err)
		}
		if !slices.Equal(b.c.Calls(), before) || b.c.Clock() != clock || !b.c.Idle(0) || b.c.Idle(1) {
			t.Errorf("%+v: something is changed", c)
		}
		if _, told := x.Answer(); told {
			t.Errorf("%+v: what was refused is done", c)
		}
		// The thread goes on with its own call, and what was refused never steps.
		b.check()
		b.end(1)
		if l := b.x.Keys(); !slices.Equal(l, keys("a")) {
			t.Errorf("%+v: keys %q", c, l)
		}
	}
}

// A thread is free again as soon as its call is done, not ahead of that.
func TestBusyUntilItIsDone(t *testing.T) {
	b := bookOf(t, 1, "m")
	for _, d := range []deed{{ins, "a"}, {del, "m"}, {find, "a"}, {ins, "a"}, {seek, "b"}, {del, "m"}} {
		if err := b.do(0, d); err != api.OK {
			b.fail("%v begun: %v", d, err)
		}
		for !b.c.Idle(0) {
			if err := b.do(0, deed{find, "m"}); err != api.ErrBusy {
				b.fail("%v, as it isn't done: %v", d, err)
			}
			b.pick(0)
		}
	}
}

// P16.2: Pick.

func TestPickOfNone(t *testing.T) {
	for _, n := range []int{1, 3, 8} {
		b := bookOf(t, n)
		for _, i := range odd() {
			if b.c.Pick(i) {
				t.Errorf("picked %d of %d, without calls", i, n)
			}
		}
		b.check()
		b.do(0, deed{ins, "a"})
		for _, i := range odd() {
			if i != 0 && b.c.Pick(i) {
				t.Errorf("picked %d of %d", i, n)
			}
		}
		b.check()
	}
}

// One pick is one step, of that thread's call alone, and one more of the clock.
func TestPickIsOneStep(t *testing.T) {
	for _, d := range []deed{{ins, "a"}, {ins, "m"}, {del, "m"}, {del, "a"}, {find, "m"}, {find, "a"}, {seek, "a"}, {seek, "z"}} {
		b := bookOf(t, 2, "m", "d", "t")
		steps := 1
		_, y := planted(t, "m", "d", "t")
		for x := d.on(y); !x.Step(); steps++ {
		}
		h := b.made(d)
		b.do(0, deed{ins, "zz"})
		b.begin(1, h, d.kind, d.key)
		for i := range steps {
			if _, told := h.call.Answer(); told || b.c.Idle(1) {
				b.fail("done in %d steps of %d", i, steps)
			}
			count := b.m.Count()
			if !b.c.Pick(1) || b.c.Clock() != 3+i || b.m.Count() > count+1 {
				b.fail("picked: the clock is %d, and %d cells were asked", b.c.Clock(), b.m.Count()-count)
			}
		}
		a, told := h.call.Answer()
		if !told || !b.c.Idle(1) || b.c.Idle(0) {
			b.fail("not done in %d steps", steps)
		}
		want := []order.Call{{Kind: ins, Key: "zz", Inv: 0, Ret: -1}, {Kind: d.kind, Key: d.key, Ok: a.Ok, Inv: 1, Ret: 1 + steps}}
		if l := b.c.Calls(); !slices.Equal(l, want) {
			b.fail("calls %+v, not %+v", l, want)
		}
		if b.c.Pick(1) || b.c.Clock() != 2+steps {
			b.fail("picked again: the clock is %d", b.c.Clock())
		}
	}
}

// What a call tells is its own, in whatever turn calls are answered.
func TestAnswersAreNotedAtTheirCalls(t *testing.T) {
	l := []deed{{ins, "a"}, {ins, "m"}, {del, "m"}, {del, "z"}, {find, "q"}, {find, "z"}}
	for i := range 720 {
		turn, rest, n := []int(nil), []int{0, 1, 2, 3, 4, 5}, i
		for m := 6; m > 0; m-- {
			turn, rest, n = append(turn, rest[n%m]), slices.Delete(rest, n%m, n%m+1), n/m
		}
		b := bookOf(t, 6, "m", "q")
		for j, d := range l {
			b.do(j, d)
		}
		for _, j := range turn {
			b.end(j)
			if c := b.c.Calls()[j]; c.Ret != b.c.Clock()-1 || c.Inv != j {
				b.fail("%+v, as the clock is %d", c, b.c.Clock())
			}
		}
		for j, c := range b.c.Calls() {
			// Of m, who was first says; the others are of keys of their own.
			want := []bool{true, false, true, false, true, false}[j]
			if j == 1 {
				want = slices.Index(turn, 2) < slices.Index(turn, 1)
			}
			if c.Ok != want {
				b.fail("%v told %v", l[j], c.Ok)
			}
		}
	}
}

// P16.2: a call that told an error.

func TestErrMem(t *testing.T) {
	m, x := cramped(t, 2, "m")
	c := crowd.New(2)
	h := x.Insert("a", 1)
	c.Begin(1, x.Find("m"), find, "m")
	c.Begin(0, h, ins, "a")
	n := 0
	for !c.Idle(0) {
		if !c.Pick(0) {
			t.Fatal("it has no call, and isn't idle")
		}
		if n++; c.Clock() != 2+n || n > 100 {
			t.Fatalf("the clock is %d, picked %d times", c.Clock(), n)
		}
	}
	if a, told := h.Answer(); !told || a.Err != api.ErrMem {
		t.Fatalf("told %+v, %v", a, told)
	}
	want := []order.Call{{Kind: find, Key: "m", Inv: 0, Ret: -1}, {Kind: ins, Key: "a", Inv: 1, Ret: -1}}
	if l := c.Calls(); !slices.Equal(l, want) {
		t.Errorf("calls %+v", l)
	}
	if c.Pick(0) || c.Clock() != 2+n {
		t.Error("it was picked again")
	}
	// The thread goes on with others.
	if err := c.Begin(0, x.Insert("m", 1), ins, "m"); err != api.OK {
		t.Fatalf("begun: %v", err)
	}
	for c.Pick(0) {
	}
	at := c.Clock() - 1
	want = append(want, order.Call{Kind: ins, Key: "m", Inv: 2 + n, Ret: at})
	if l := c.Calls(); !slices.Equal(l, want) {
		t.Errorf("calls %+v, not %+v", l, want)
	}
	if l := x.Keys(); !slices.Equal(l, keys("m")) || m.Len() != api.MaxCells-2 {
		t.Errorf("keys %q, %d cells", l, m.Len())
	}
}

// P16.2: calls that somebody stepped ahead of their Begin, or meanwhile.

func TestSteppedAheadOfItsBegin(t *testing.T) {
	for _, d := range []deed{{ins, "a"}, {ins, "m"}, {del, "m"}, {find, "m"}, {find, "z"}} {
		_, y := planted(t, "m", "d")
		steps := 1
		for x := d.on(y); !x.Step(); steps++ {
		}
		for ahead := range steps + 3 {
			b := bookOf(t, 2, "m", "d")
			h := b.made(d)
			for range ahead {
				h.call.Step()
				h.other.Step()
			}
			if err := b.begin(0, h, d.kind, d.key); err != api.OK || b.c.Idle(0) {
				b.fail("begun: %v, idle: %v", err, b.c.Idle(0))
			}
			// One that is done is so, as a thread's call, when it is picked.
			if n := b.end(0); n != max(1, steps-ahead) {
				b.fail("done in %d picks, stepped %d times of %d ahead", n, ahead, steps)
			}
			a, _ := h.other.Answer()
			if c := b.c.Calls()[0]; c.Inv != 0 || c.Ret != max(1, steps-ahead) || c.Ok != a.Ok {
				b.fail("noted as %+v", c)
			}
		}
	}
}

func TestErrMemAheadOfItsBegin(t *testing.T) {
	_, x := cramped(t, 0)
	h := x.Insert("a", 1)
	if a := bst.Run(h); a.Err != api.ErrMem {
		t.Fatalf("told %+v", a)
	}
	c := crowd.New(1)
	if err := c.Begin(0, h, ins, "a"); err != api.OK || c.Idle(0) {
		t.Fatalf("begun: %v", err)
	}
	if !c.Pick(0) || !c.Idle(0) || c.Clock() != 2 {
		t.Errorf("picked: idle is %v, the clock %d", c.Idle(0), c.Clock())
	}
	if l := c.Calls(); !slices.Equal(l, []order.Call{{Kind: ins, Key: "a", Inv: 0, Ret: -1}}) {
		t.Errorf("calls %+v", l)
	}
}

func TestSteppedBesideTheCrowd(t *testing.T) {
	b := bookOf(t, 1, "m")
	h := b.made(deed{del, "m"})
	b.begin(0, h, del, "m")
	b.pick(0)
	bst.Run(h.call)
	bst.Run(h.other)
	b.check() // It has its call until it is picked.
	b.pick(0)
	if c := b.c.Calls()[0]; c.Ret != 2 || !c.Ok || !b.c.Idle(0) {
		b.fail("noted as %+v", c)
	}
}

func TestOneCallOfTwoThreads(t *testing.T) {
	b := bookOf(t, 2, "m")
	h, g := b.made(deed{ins, "a"}), &twin{}
	*g = *h
	b.begin(0, h, ins, "a")
	b.begin(1, g, find, "b")
	for b.c.Pick(0) {
	}
	// Stepped by the one, it is done at the other one's next pick.
	if b.c.Idle(1) || !b.c.Pick(1) || !b.c.Idle(1) {
		t.Fatal("picked at the other one it isn't done")
	}
	n := b.c.Clock()
	want := []order.Call{{Kind: ins, Key: "a", Ok: true, Inv: 0, Ret: n - 2}, {Kind: find, Key: "b", Ok: true, Inv: 1, Ret: n - 1}}
	if l := b.c.Calls(); !slices.Equal(l, want) {
		t.Errorf("calls %+v, not %+v", l, want)
	}
}

// A call begun anew, as it is done, is one more.
func TestBegunAgain(t *testing.T) {
	b := bookOf(t, 2)
	h := b.made(deed{ins, "a"})
	b.begin(0, h, ins, "a")
	n := b.end(0)
	b.begin(0, h, ins, "a")
	b.end(0)
	b.begin(1, h, ins, "a")
	b.end(1)
	want := []order.Call{{Kind: ins, Key: "a", Ok: true, Inv: 0, Ret: n}, {Kind: ins, Key: "a", Ok: true, Inv: n + 1, Ret: n + 2}, {Kind: ins, Key: "a", Ok: true, Inv: n + 3, Ret: n + 4}}
	if l := b.c.Calls(); !slices.Equal(l, want) {
		t.Errorf("calls %+v, not %+v", l, want)
	}
}

// A call that no tree made is done, and told nothing.
func TestZeroCall(t *testing.T) {
	c := crowd.New(1)
	if err := c.Begin(0, &bst.Call{}, del, "k"); err != api.OK || c.Idle(0) {
		t.Fatalf("begun: %v", err)
	}
	if !c.Pick(0) || !c.Idle(0) {
		t.Error("picked it isn't done")
	}
	if l := c.Calls(); !slices.Equal(l, []order.Call{{Kind: del, Key: "k", Inv: 0, Ret: 1}}) {
		t.Errorf("calls %+v", l)
	}
}

// P16.2: Idle.

func TestIdle(t *testing.T) {
	b := bookOf(t, 3, "m")
	is := func(want ...bool) {
		t.Helper()
		for i, w := range want {
			if b.c.Idle(i) != w {
				b.fail("%d idle: %v", i, !w)
			}
		}
	}
	is(true, true, true, false)
	b.begin(1, nil, ins, "a")
	is(true, true, true, false)
	b.do(1, deed{ins, "a"})
	is(true, false, true, false)
	b.pick(0)
	is(true, false, true, false)
	b.pick(1)
	is(true, false, true, false)
	b.do(2, deed{find, "a"})
	is(true, false, false, false)
	b.end(1)
	is(true, true, false, false)
	b.end(2)
	is(true, true, true, false)
}

// P16.2: Calls.

func TestCallsAreInTheTurnInWhichTheyBegan(t *testing.T) {
	b := bookOf(t, 4)
	for n := range 40 {
		b.do(n*3%4, deed{1 + n%3, fmt.Sprintf("k%d", n)})
		b.end((n*3 + 3) % 4) // Each goes on to its end as the one behind it has begun.
	}
	for n, c := range b.c.Calls() {
		if c.Key != fmt.Sprintf("k%d", n) || n > 0 && c.Inv <= b.calls[n-1].Inv {
			b.fail("the call %d is %+v", n, c)
		}
	}
}

func TestWhatCallsToldIsTheCallersOwn(t *testing.T) {
	b := bookOf(t, 3, "m")
	for n := range 30 {
		for i := range 3 {
			b.do(i, deed{1 + n%3, "a"})
		}
		l := b.c.Calls()
		was := slices.Clone(l)
		b.pick(n % 3)
		b.end(1)
		b.do(1, deed{ins, "b"})
		if !slices.Equal(l, was) {
			b.fail("what was told is %+v now, not %+v", l, was)
		}
		// Neither what it told nor what is noted behind that is the Crowd's.
		for i := range l {
			l[i] = order.Call{Kind: 9, Key: "x", Ok: true, Inv: 99, Ret: 999}
		}
		_ = append(l[:len(l)/2], l...)
		for i, g := 0, l[:cap(l)]; i < len(g); i++ {
			g[i].Key = "y"
		}
		b.check()
		k := b.c.Calls()
		if h := b.c.Calls(); len(h) > 0 && &h[0] == &k[0] {
			b.fail("two lists share what they have")
		}
		for i := range 3 {
			b.end(i)
		}
	}
}

// P16.1 and P16.2: a Crowd that is nil.

func TestNil(t *testing.T) {
	var c *crowd.Crowd
	_, x := planted(t)
	for _, i := range odd() {
		h := x.Insert("a", 1)
		for _, kind := range []int{ins, del, find, -1} {
			if err := c.Begin(i, h, kind, "a"); err != api.ErrArg {
				t.Errorf("begun at %d: %v", i, err)
			}
			if err := c.Begin(i, nil, kind, ""); err != api.ErrArg {
				t.Errorf("none begun at %d: %v", i, err)
			}
		}
		if c.Pick(i) || c.Idle(i) {
			t.Errorf("%d is picked, or idle", i)
		}
		if l := c.Calls(); len(l) != 0 || c.Clock() != 0 {
			t.Errorf("calls %v, the clock %d", l, c.Clock())
		}
		if _, told := h.Answer(); told {
			t.Error("what was refused is done")
		}
	}
}

// P16.1 and P16.2: two Crowds of one tree, each with a clock of its own.

func TestTwoCrowdsOfOneTree(t *testing.T) {
	for at := range 12 {
		b := bookOf(t, 2, "m")
		d := &book{t: t, c: crowd.New(1), m: b.m, n: b.n, x: b.x, y: b.y, has: make([]*twin, 1)}
		b.do(1, deed{ins, "a"})
		for range at {
			b.pick(1)
		}
		d.do(0, deed{ins, "a"})
		b.check()
		d.end(0)
		b.check()
		b.end(1)
		d.check()
		k, l := b.c.Calls(), d.c.Calls()
		if len(k) != 1 || len(l) != 1 || k[0].Ok == l[0].Ok {
			t.Errorf("picked %d times: told %+v and %+v", at, k, l)
		}
		if k[0].Inv != 0 || l[0].Inv != 0 || l[0].Ret != d.c.Clock()-1 {
			t.Errorf("picked %d times: noted as %+v and %+v", at, k, l)
		}
		if l := b.x.Keys(); !slices.Equal(l, keys("a", "m")) {
			t.Errorf("keys %q", l)
		}
	}
}

// P16.1 and P16.2: whatever is called, in every way.

func TestEveryWay(t *testing.T) {
	acts := []func(b *book){
		func(b *book) { b.do(0, deed{ins, "a"}) },
		func(b *book) { b.do(0, deed{find, "m"}) },
		func(b *book) { b.do(1, deed{del, "m"}) },
		func(b *book) { b.do(1, deed{ins, "a"}) },
		func(b *book) { b.begin(0, nil, ins, "a") },
		func(b *book) { b.do(2, deed{ins, "b"}) },
		func(b *book) { b.pick(0) },
		func(b *book) { b.pick(1) },
		func(b *book) { b.pick(2); b.pick(-1) },
		func(b *book) { b.end(0) },
		func(b *book) { b.pick(1); b.pick(1); b.pick(1) },
	}
	const deep = 4
	for i := range 11 * 11 * 11 * 11 {
		b := bookOf(t, 2, "m")
		for range deep {
			acts[i%len(acts)](b)
			i /= len(acts)
		}
		b.end(0)
		b.end(1)
	}
}

// draw is numbers that are mixed, and the same in each run.
type draw uint64

func (d *draw) next(n int) int {
	*d = *d*6364136223846793005 + 1442695040888963407
	return int(uint64(*d) >> 33 % uint64(n))
}

func TestLongWays(t *testing.T) {
	for n := 1; n <= api.MaxThreads; n++ {
		d := draw(n)
		b := bookOf(t, n, "m", "d")
		for range 1500 {
			i := d.next(n+2) - 1
			switch d.next(12) {
			case 0:
				b.begin(i, nil, d.next(9)-2, "x")
			case 1, 2, 3, 4:
				b.do(i, deed{1 + d.next(4), string(rune('a' + d.next(6)))})
			default:
				for range 1 + d.next(4) {
					b.pick(i)
				}
			}
		}
	}
}
