package bst_test

import (
	"fmt"
	"math"
	"os"
	"runtime/debug"
	"slices"
	"strings"
	"testing"

	"impost/api"
	"impost/bst"
	"impost/mem"
)

// TestMain lets memory be cleared seldom: a great many small trees are made, and thrown away.
func TestMain(m *testing.M) {
	debug.SetGCPercent(2000)
	os.Exit(m.Run())
}

// Kinds of calls: the first three are package order's.
const (
	ins  = 1
	del  = 2
	find = 3
	seek = 4
)

// deed is a call that may be made.
type deed struct {
	kind int
	key  string
	val  uint64
}

func (d deed) on(t *bst.Tree) *bst.Call {
	switch d.kind {
	case ins:
		return t.Insert(d.key, d.val)
	case del:
		return t.Delete(d.key)
	case find:
		return t.Find(d.key)
	}
	return t.Seek(d.key)
}

func (d deed) String() string {
	return fmt.Sprintf("%c%q", " IDFS"[d.kind], d.key)
}

func keys(l ...string) []string { return l }

// valOf is the number that a key has in a tree of planted's.
func valOf(k string) uint64 { return uint64(len(k))*1000 + 100 }

// planted is a tree that has keys, inserted in turn, in a Mem that has cells of somebody else's, too.
func planted(t testing.TB, l ...string) (*mem.Mem, *bst.Tree) {
	m := mem.New(2)
	x := bst.New(m)
	for _, k := range l {
		if a := bst.Run(x.Insert(k, valOf(k))); !a.Ok {
			t.Fatalf("planting %q of %q: %+v", k, l, a)
		}
	}
	return m, x
}

// state is what all cells have.
func state(m *mem.Mem) []uint64 {
	l := make([]uint64, m.Len())
	for a := range l {
		l[a], _ = m.Peek(a)
	}
	return l
}

// step lets a call step, and looks that it asks one cell at most, and tells whether it is done as Answer does.
func step(t testing.TB, m *mem.Mem, c *bst.Call) bool {
	was := m.Count()
	done := c.Step()
	if n := m.Count() - was; n < 0 || n > 1 {
		t.Fatalf("a step asked %d cells", n)
	}
	a, told := c.Answer()
	if told != done || !told && a != (bst.Answer{}) {
		t.Fatalf("done is %v, the answer %+v, %v", done, a, told)
	}
	return done
}

// endless is more steps than any call of a test needs.
const endless = 1 << 20

// run lets a call go on to its end, and tells what it told, and in how many steps.
func run(t testing.TB, m *mem.Mem, c *bst.Call) (bst.Answer, int) {
	n := 1
	for !step(t, m, c) {
		if n++; n > endless {
			t.Fatal("no end")
		}
	}
	a, _ := c.Answer()
	return a, n
}

// model is keys with their numbers, changed by one call after the other.
type model map[string]uint64

// modelOf is that of a tree of planted's.
func modelOf(l []string) model {
	m := model{}
	for _, k := range l {
		m[k] = valOf(k)
	}
	return m
}

// do is what a call tells, done at once, in the chapter's words.
func (m model) do(d deed) bst.Answer {
	val, there := m[d.key]
	switch d.kind {
	case ins:
		if !there {
			m[d.key], val = d.val, d.val
		}
		return bst.Answer{Ok: !there, Key: d.key, Val: val}
	case del:
		delete(m, d.key)
		return bst.Answer{Ok: there, Key: d.key, Val: val}
	case find:
		return bst.Answer{Ok: there, Key: d.key, Val: val}
	}
	for _, k := range m.keys() {
		if k >= d.key {
			return bst.Answer{Ok: true, Key: k, Val: m[k]}
		}
	}
	return bst.Answer{}
}

func (m model) keys() []string {
	var l []string
	for k := range m {
		l = append(l, k)
	}
	slices.Sort(l)
	return l
}

// same looks that a call told what is wanted.
func same(t testing.TB, what any, got, want bst.Answer) {
	if got != want {
		t.Fatalf("%v: %+v, not %+v", what, got, want)
	}
}

// holds looks that a tree has a model's keys.
func holds(t testing.TB, what any, x *bst.Tree, m model) {
	if got := x.Keys(); !slices.Equal(got, m.keys()) {
		t.Fatalf("%v: keys %q, not %q", what, got, m.keys())
	}
}

// odd are keys that begin with one another, the one that is empty, and such as have bytes above 127, rising.
func odd() []string {
	return keys("", "\x00", "\x00\x00", "a", "a\x00", "aa", "ab", "b", "\x7f", "\x80", "\xff", "\xff\x00", "\xff\xff", strings.Repeat("\xff", 300))
}

// all are calls of all kinds of a key.
func all(k string, v uint64) []deed {
	return []deed{{ins, k, v}, {del, k, 0}, {find, k, 0}, {seek, k, 0}}
}

// turned are keys in several turns in which they can come: rising, falling, from the middle, and mixed.
func turned(l []string) [][]string {
	fall := slices.Clone(l)
	slices.Reverse(fall)
	var zig, mixed []string
	for i := range l {
		if i%2 == 0 {
			zig = append(zig, l[i/2])
		} else {
			zig = append(zig, l[len(l)-1-i/2])
		}
	}
	step := 1
	for step*step < len(l) {
		step++
	}
	for i := range step {
		for j := i; j < len(l); j += step {
			mixed = append(mixed, l[j])
		}
	}
	inside := slices.Clone(zig)
	slices.Reverse(inside)
	return [][]string{l, fall, zig, inside, mixed}
}

// named are so many keys, rising.
func named(n int) []string {
	var l []string
	for i := range n {
		l = append(l, fmt.Sprintf("k%05d", i))
	}
	return l
}

// orders are all turns in which keys can come.
func orders(l []string) [][]string {
	if len(l) == 0 {
		return [][]string{nil}
	}
	var out [][]string
	for i, k := range l {
		for _, o := range orders(append(slices.Clone(l[:i]), l[i+1:]...)) {
			out = append(out, append(keys(k), o...))
		}
	}
	return out
}

// P15.1.

func TestNew(t *testing.T) {
	if bst.New(nil) != nil {
		t.Error("a tree without a Mem")
	}
	for _, c := range []struct {
		cells int
		some  bool
	}{{0, true}, {1, true}, {100, true}, {api.MaxCells - 4, true}, {api.MaxCells - 3, true}, {api.MaxCells - 2, false}, {api.MaxCells - 1, false}, {api.MaxCells, false}} {
		m := mem.New(c.cells)
		for a := range c.cells {
			m.Store(a, uint64(a)+7)
		}
		x := bst.New(m)
		if (x != nil) != c.some {
			t.Fatalf("New of a Mem of %d cells: %v", c.cells, x)
		}
		want := c.cells
		if c.some {
			want += 3
		}
		if m.Len() != want {
			t.Errorf("New of a Mem of %d cells: there are %d then", c.cells, m.Len())
		}
		for a := range c.cells {
			if v, _ := m.Peek(a); v != uint64(a)+7 {
				t.Fatalf("New of a Mem of %d cells: cell %d has %d", c.cells, a, v)
			}
		}
	}
}

func TestNewIsEmpty(t *testing.T) {
	m, x := planted(t)
	if l := x.Keys(); len(l) != 0 {
		t.Errorf("keys: %q", l)
	}
	for _, k := range odd() {
		for _, d := range all(k, 5)[1:] {
			a, _ := run(t, m, d.on(x))
			same(t, d, a, model{}.do(d))
		}
	}
}

// Two trees of one Mem, and cells between theirs, have nothing to do with each other.
func TestTwoTreesOfOneMem(t *testing.T) {
	m, x := planted(t)
	y := bst.New(m)
	xs, ys := model{}, model{}
	var others []int
	for i, k := range append(odd(), named(20)...) {
		a, _ := m.Grow(1)
		m.Store(a, uint64(i)+100)
		others = append(others, a)
		for _, d := range []deed{{ins, k, uint64(i)}, {ins, k + "x", 3}, {del, k, 0}} {
			same(t, d, bst.Run(d.on(x)), xs.do(d))
			d.key += "y"
			same(t, d, bst.Run(d.on(y)), ys.do(d))
		}
		same(t, k, bst.Run(x.Insert(k, 9)), xs.do(deed{ins, k, 9}))
	}
	holds(t, "the one", x, xs)
	holds(t, "the other one", y, ys)
	for i, a := range others {
		if v, _ := m.Peek(a); v != uint64(i)+100 {
			t.Errorf("cell %d has %d", a, v)
		}
	}
}

// Calls that were made have done nothing: also those that nobody lets step.
func TestMadeIsNotBegun(t *testing.T) {
	m, x := planted(t, "b", "a", "c")
	was, count := state(m), m.Count()
	for _, k := range append(odd(), "c") {
		for _, d := range all(k, 5) {
			c := d.on(x)
			if a, done := c.Answer(); done || a != (bst.Answer{}) {
				t.Errorf("%v tells %+v, %v", d, a, done)
			}
		}
	}
	if !slices.Equal(state(m), was) || m.Count() != count {
		t.Error("cells were asked")
	}
	holds(t, "nothing was done", x, modelOf(keys("a", "b", "c")))
}

// A call begins with its first step, not when it is made.
func TestBeginsWithItsFirstStep(t *testing.T) {
	_, x := planted(t, "b", "d")
	var made []*bst.Call
	deeds := []deed{{ins, "c", 1}, {del, "b", 0}, {find, "d", 0}, {find, "e", 0}, {seek, "d", 0}, {seek, "dd", 0}, {ins, "e", 4}, {del, "e", 0}}
	for _, d := range deeds {
		made = append(made, d.on(x))
	}
	now := modelOf(keys("b", "d"))
	for _, d := range []deed{{ins, "c", 7}, {del, "b", 0}, {del, "d", 0}, {ins, "e", 8}, {ins, "d", 9}} {
		same(t, d, bst.Run(d.on(x)), now.do(d))
	}
	for i, d := range deeds {
		same(t, d, bst.Run(made[i]), now.do(d))
	}
	holds(t, "then", x, now)
}

// A call that doesn't fit any more for want of room begins with its first step, too.
func TestRoomIsLookedAtWithTheFirstStep(t *testing.T) {
	m, x := planted(t, "b")
	c := x.Insert("a", 1)
	m.Grow(api.MaxCells - m.Len())
	a, n := run(t, m, c)
	same(t, "no room", a, bst.Answer{Err: api.ErrMem})
	if n > 20 {
		t.Errorf("%d steps", n)
	}
}

func TestEachStepAsksOneCellAtMost(t *testing.T) {
	for _, l := range turned(odd()) {
		m, x := planted(t)
		now := model{}
		for i, k := range l {
			for _, d := range []deed{{find, k, 0}, {del, k, 0}, {ins, k, uint64(i)}, {find, k, 0}, {seek, k, 0}, {ins, k, 99}} {
				a, n := run(t, m, d.on(x))
				same(t, d, a, now.do(d))
				if n < 1 || n > 16+4*i+4 {
					t.Errorf("%v: %d steps", d, n)
				}
			}
		}
		for _, k := range l {
			for _, d := range []deed{{seek, k, 0}, {del, k, 0}, {del, k, 0}, {seek, k, 0}} {
				a, _ := run(t, m, d.on(x))
				same(t, d, a, now.do(d))
			}
		}
	}
}

// A call that is done asks nothing, tells that it is done, and what it told, however often it is asked.
func TestStepOfOneThatIsDone(t *testing.T) {
	m, x := planted(t, "b", "d")
	for _, d := range []deed{{ins, "c", 5}, {ins, "c", 6}, {del, "b", 0}, {del, "b", 0}, {find, "d", 0}, {find, "x", 0}, {seek, "a", 0}, {seek, "x", 0}} {
		c := d.on(x)
		want, _ := run(t, m, c)
		bst.Run(x.Delete("d"))
		bst.Run(x.Insert("bb", 8))
		was, count := state(m), m.Count()
		for range 5 {
			if !c.Step() {
				t.Errorf("%v isn't done any more", d)
			}
			if a, done := c.Answer(); !done || a != want {
				t.Errorf("%v: %+v, %v, not %+v", d, a, done, want)
			}
			same(t, d, bst.Run(c), want)
		}
		if !slices.Equal(state(m), was) || m.Count() != count {
			t.Errorf("%v: cells were asked", d)
		}
		bst.Run(x.Insert("d", valOf("d")))
		bst.Run(x.Delete("bb"))
	}
}

// Run goes on with a call wherever it is.
func TestRunFromTheMidst(t *testing.T) {
	for _, d := range append(append(all("a", 7), all("b", 7)...), all("z", 7)...) {
		for at := range 12 {
			_, x := planted(t, "b", "a", "c")
			now := modelOf(keys("a", "b", "c"))
			c := d.on(x)
			for range at {
				c.Step()
			}
			same(t, d, bst.Run(c), now.do(d))
			holds(t, d, x, now)
		}
	}
}

func TestNil(t *testing.T) {
	var x *bst.Tree
	for _, k := range odd() {
		if x.Insert(k, 1) != nil || x.Delete(k) != nil || x.Find(k) != nil || x.Seek(k) != nil {
			t.Errorf("a call of %q of no tree", k)
		}
	}
	if l := x.Keys(); len(l) != 0 {
		t.Errorf("keys of no tree: %q", l)
	}
	var c *bst.Call
	for range 2 {
		if !c.Step() {
			t.Error("no call isn't done")
		}
		if a, done := c.Answer(); done || a != (bst.Answer{}) {
			t.Errorf("no call tells %+v, %v", a, done)
		}
		if a := bst.Run(c); a != (bst.Answer{}) {
			t.Errorf("no call, run, tells %+v", a)
		}
	}
	if a := bst.Run(bst.New(nil).Insert("a", 1)); a != (bst.Answer{}) {
		t.Errorf("inserted into no tree: %+v", a)
	}
}

// How many cells New takes is looked at in TestNew.
func TestCellsThatAreTaken(t *testing.T) {
	m, x := planted(t)
	grown := func(d deed, want int) {
		t.Helper()
		was := m.Len()
		a, _ := run(t, m, d.on(x))
		if n := m.Len() - was; n != want {
			t.Errorf("%v, %+v: %d cells more", d, a, n)
		}
	}
	for i, k := range odd() {
		grown(deed{find, k, 0}, 0)
		grown(deed{seek, k, 0}, 0)
		grown(deed{del, k, 0}, 0)
		grown(deed{ins, k, uint64(i)}, 3)
		grown(deed{ins, k, 99}, 0)
		grown(deed{find, k, 0}, 0)
		grown(deed{seek, k, 0}, 0)
	}
	for _, k := range odd() {
		grown(deed{del, k, 0}, 0)
		grown(deed{ins, k, 1}, 3) // none is taken again
		grown(deed{del, k, 0}, 0)
		grown(deed{del, k, 0}, 0)
	}
}

// P15.2: one behind the other.

func TestExampleAlone(t *testing.T) {
	m, x := planted(t)
	a, _ := run(t, m, x.Insert("a", 5))
	same(t, "first", a, bst.Answer{Ok: true, Key: "a", Val: 5})
	a, _ = run(t, m, x.Insert("a", 6))
	same(t, "second", a, bst.Answer{Key: "a", Val: 5})
	a, _ = run(t, m, x.Find("a"))
	same(t, "found", a, bst.Answer{Ok: true, Key: "a", Val: 5})
	a, _ = run(t, m, x.Find("b"))
	same(t, "not found", a, bst.Answer{Key: "b"})
	a, _ = run(t, m, x.Delete("a"))
	same(t, "deleted", a, bst.Answer{Ok: true, Key: "a", Val: 5})
	a, _ = run(t, m, x.Delete("a"))
	same(t, "deleted again", a, bst.Answer{Key: "a"})
	a, _ = run(t, m, x.Find("a"))
	same(t, "found behind that", a, bst.Answer{Key: "a"})
}

func TestNumbers(t *testing.T) {
	for _, v := range []uint64{0, 1, 2, 3, 4, 5, 1 << 20, 1 << 62, 1 << 63, math.MaxUint64 - 1, math.MaxUint64} {
		_, x := planted(t, "m")
		now := modelOf(keys("m"))
		for _, d := range []deed{{ins, "a", v}, {find, "a", 0}, {seek, "", 0}, {ins, "a", v + 1}, {ins, "z", v}, {ins, "b", v - 1}, {find, "a", 0}, {seek, "n", 0}, {del, "a", 0}, {find, "a", 0}, {ins, "a", v - 1}, {find, "b", 0}, {del, "z", 0}, {del, "a", 0}} {
			same(t, d, bst.Run(d.on(x)), now.do(d))
		}
		holds(t, v, x, now)
	}
}

// everyWay lets all runs of so many of some calls be done to a tree, each from the begin, and looks at each answer.
func everyWay(t *testing.T, first []string, deeds []deed, n int, done []deed) {
	_, x := planted(t, first...)
	now := modelOf(first)
	for _, d := range done {
		same(t, done, bst.Run(d.on(x)), now.do(d))
	}
	holds(t, done, x, now)
	if n == 0 {
		return
	}
	for i, d := range deeds {
		d.val = uint64(10*n + i)
		everyWay(t, first, deeds, n-1, append(slices.Clone(done), d))
	}
}

func TestOneBehindTheOtherInEveryWay(t *testing.T) {
	one := append(all("b", 0), all("bb", 0)...)
	everyWay(t, nil, one, 4, nil)
	everyWay(t, keys("b"), one, 3, nil)
	var more []deed
	for _, k := range keys("", "a", "b", "\xff") {
		more = append(more, deed{ins, k, 0}, deed{del, k, 0})
	}
	everyWay(t, nil, more, 4, nil)
	for _, o := range orders(keys("a", "b", "c")) {
		everyWay(t, o, append(more, deed{ins, "bb", 0}, deed{del, "c", 0}, deed{seek, "b", 0}), 2, nil)
	}
}

// draw is numbers that are mixed, and the same in each run.
type draw uint64

func (d *draw) next(n int) int {
	*d = *d*6364136223846793005 + 1442695040888963407
	return int(uint64(*d) >> 33 % uint64(n))
}

func TestLongWays(t *testing.T) {
	for seed := range 12 {
		d := draw(seed)
		m, x := planted(t)
		now := model{}
		l := odd()
		if seed%2 == 1 {
			l = named(40)
		}
		for i := range 3000 {
			c := deed{1 + d.next(4), l[d.next(len(l))], uint64(i)}
			a, _ := run(t, m, c.on(x))
			same(t, c, a, now.do(c))
			if i%100 == 0 {
				holds(t, i, x, now)
			}
		}
		holds(t, "at the end", x, now)
	}
}

// Keys that come rising, falling and mixed, are deleted in each of these turns, and come again.
func TestFilledEmptiedAndFilledAnew(t *testing.T) {
	for _, l := range [][]string{odd(), named(30), keys("a"), keys("a", "b")} {
		for i, in := range turned(l) {
			for _, out := range turned(l) {
				_, x := planted(t, in...)
				now := modelOf(in)
				holds(t, in, x, now)
				for _, k := range out {
					same(t, k, bst.Run(x.Delete(k)), now.do(deed{del, k, 0}))
					same(t, k, bst.Run(x.Find(k)), now.do(deed{find, k, 0}))
					holds(t, out, x, now)
				}
				for j, k := range turned(l)[(i+2)%5] {
					d := deed{ins, k, uint64(j)}
					same(t, k, bst.Run(d.on(x)), now.do(d))
				}
				holds(t, out, x, now)
			}
		}
	}
}

// P15.2: no room.

// cramped is a tree that has keys, and room for so many cells more.
func cramped(t testing.TB, room int, l ...string) (*mem.Mem, *bst.Tree) {
	m, x := planted(t, l...)
	if _, err := m.Grow(api.MaxCells - room - m.Len()); err != api.OK {
		t.Fatal(err)
	}
	return m, x
}

func TestNoRoom(t *testing.T) {
	for room := range 3 {
		for _, l := range append(orders(keys("b", "d", "f")), nil, keys("b"), keys("d", "b")) {
			m, x := cramped(t, room, l...)
			now := modelOf(l)
			was := state(m)
			for _, k := range keys("", "a", "b", "c", "d", "e", "f", "g", "\xff") {
				want := bst.Answer{Err: api.ErrMem}
				if _, there := now[k]; there {
					want = bst.Answer{Key: k, Val: valOf(k)}
				}
				a, _ := run(t, m, x.Insert(k, 5))
				same(t, k, a, want)
				same(t, k, bst.Run(x.Find(k)), now.do(deed{find, k, 0}))
				same(t, k, bst.Run(x.Seek(k)), now.do(deed{seek, k, 0}))
			}
			if !slices.Equal(state(m), was) {
				t.Fatalf("%q: cells were changed", l)
			}
			holds(t, l, x, now)
			for _, k := range l {
				same(t, k, bst.Run(x.Delete(k)), now.do(deed{del, k, 0}))
				same(t, k, bst.Run(x.Insert(k, 5)), bst.Answer{Err: api.ErrMem})
				same(t, k, bst.Run(x.Find(k)), bst.Answer{Key: k})
				holds(t, l, x, now)
			}
		}
	}
}

func TestTheLastRoom(t *testing.T) {
	for room, want := range map[int]int{3: 1, 4: 1, 5: 1, 6: 2, 7: 2, 9: 3} {
		m, x := cramped(t, room, "m")
		now := modelOf(keys("m"))
		for i, k := range keys("a", "z", "b", "n") {
			a, _ := run(t, m, x.Insert(k, uint64(i)))
			if i >= want {
				same(t, k, a, bst.Answer{Err: api.ErrMem})
				continue
			}
			same(t, k, a, now.do(deed{ins, k, uint64(i)}))
			same(t, k, bst.Run(x.Insert(k, 77)), now.do(deed{ins, k, 77}))
		}
		holds(t, room, x, now)
		if m.Len() != api.MaxCells-room+3*want {
			t.Errorf("room for %d: %d cells", room, m.Len())
		}
	}
}

// All the room there is: a tree that takes all cells, is emptied, and can't be filled again.
func TestAllRoom(t *testing.T) {
	m := mem.New(0)
	x := bst.New(m)
	l := turned(named((api.MaxCells - 3) / 3))[4]
	now := model{}
	for i, k := range l {
		same(t, k, bst.Run(x.Insert(k, uint64(i))), now.do(deed{ins, k, uint64(i)}))
	}
	same(t, "no room", bst.Run(x.Insert("x", 1)), bst.Answer{Err: api.ErrMem})
	holds(t, "filled", x, now)
	for _, k := range l {
		same(t, k, bst.Run(x.Find(k)), now.do(deed{find, k, 0}))
	}
	for _, k := range l {
		same(t, k, bst.Run(x.Delete(k)), now.do(deed{del, k, 0}))
	}
	holds(t, "emptied", x, now)
	same(t, "no room again", bst.Run(x.Insert("x", 1)), bst.Answer{Err: api.ErrMem})
}

// P15.3, alone.

func TestSeek(t *testing.T) {
	_, x := planted(t, "d", "b", "f")
	for k, want := range map[string]string{"": "b", "a": "b", "b": "b", "b\x00": "d", "c": "d", "d": "d", "dd": "f", "e": "f", "f": "f"} {
		same(t, k, bst.Run(x.Seek(k)), bst.Answer{Ok: true, Key: want, Val: valOf(want)})
	}
	for _, k := range keys("f\x00", "g", "\xff", "\xff\xff") {
		same(t, k, bst.Run(x.Seek(k)), bst.Answer{})
	}
	bst.Run(x.Delete("d"))
	same(t, "a key that was deleted", bst.Run(x.Seek("c")), bst.Answer{Ok: true, Key: "f", Val: valOf("f")})
	bst.Run(x.Delete("f"))
	same(t, "none any more", bst.Run(x.Seek("c")), bst.Answer{})
}

func TestSeekInEveryTree(t *testing.T) {
	ask := keys("", "a", "b", "c", "d", "e", "f", "g", "h", "hh", "i")
	for _, o := range orders(keys("b", "d", "f", "h")) {
		for n := range len(o) + 1 {
			m, x := planted(t, o[:n]...)
			now := modelOf(o[:n])
			was := state(m)
			for _, k := range ask {
				same(t, k, bst.Run(x.Seek(k)), now.do(deed{seek, k, 0}))
			}
			if !slices.Equal(state(m), was) {
				t.Fatalf("%q: cells were changed", o)
			}
			for _, gone := range o[:n] {
				same(t, gone, bst.Run(x.Delete(gone)), now.do(deed{del, gone, 0}))
				for _, k := range ask {
					same(t, k, bst.Run(x.Seek(k)), now.do(deed{seek, k, 0}))
				}
			}
		}
	}
}

func TestSeekFromKeyToKey(t *testing.T) {
	for _, l := range turned(odd()) {
		_, x := planted(t, l...)
		var told []string
		for a := bst.Run(x.Seek("")); a.Ok; a = bst.Run(x.Seek(a.Key + "\x00")) {
			told = append(told, a.Key)
		}
		if !slices.Equal(told, odd()) {
			t.Errorf("told %q", told)
		}
	}
}

func TestKeys(t *testing.T) {
	for _, l := range [][]string{nil, keys(""), keys("a"), odd(), named(1000)} {
		for _, o := range turned(l) {
			m, x := planted(t, o...)
			count, was := m.Count(), state(m)
			for range 2 {
				got := x.Keys()
				if !slices.Equal(got, l) {
					t.Fatalf("%q, not %q", got, l)
				}
				// What is told is the caller's own.
				for i := range got {
					got[i] = "x"
				}
			}
			if m.Count() != count || !slices.Equal(state(m), was) {
				t.Error("cells were asked")
			}
		}
	}
}

func TestKeysOfOneLongBranch(t *testing.T) {
	l := named(4000)
	_, x := planted(t, l...)
	if got := x.Keys(); !slices.Equal(got, l) {
		t.Errorf("%d keys", len(got))
	}
}
