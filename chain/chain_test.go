package chain_test

import (
	"fmt"
	"math"
	"slices"
	"strings"
	"testing"

	"impost/api"
	"impost/chain"
	"impost/mem"
)

func put(rev int, k, v string) api.Event { return api.Event{Rev: rev, Key: k, Val: v} }

func del(rev int, k string) api.Event { return api.Event{Rev: rev, Key: k, Del: true} }

// answer is what At tells.
type answer struct {
	kv api.KV
	ok bool
}

func at(s *chain.Store, id uint64, rev int) answer {
	kv, ok := s.At(id, rev)
	return answer{kv, ok}
}

// told is what At tells of a version at which it stops.
func told(e api.Event) answer {
	if e.Del {
		return answer{}
	}
	return answer{api.KV{Key: e.Key, Val: e.Val, Rev: e.Rev}, true}
}

// odd are numbers that cells and revisions have, and that they don't.
func odd() []int {
	l := []int{math.MinInt, math.MinInt + 1, -1 << 32, -256, math.MaxInt - 1, math.MaxInt, 1 << 32, 256, 1<<32 + 1, api.MaxCells - 1, api.MaxCells, api.MaxRev, api.MaxRev + 1}
	for n := range 20 {
		l = append(l, n-5)
	}
	return l
}

// far are ids that no version has.
func far() []uint64 {
	return []uint64{1 << 16, 1<<32 + 1, 1<<32 + 2, 1<<63 - 1, 1 << 63, 1<<63 + 1, math.MaxUint64 - 1, math.MaxUint64}
}

// cells are what all cells have.
func cells(m *mem.Mem) []uint64 {
	l := make([]uint64, m.Len())
	for a := range l {
		l[a], _ = m.Peek(a)
	}
	return l
}

// ref is a version as the book has it.
type ref struct {
	e     api.Event
	ahead int
}

// entry is a Put, and how the chapter's words have it go on.
type entry struct {
	p    *chain.Put
	cell int
	e    api.Event
	try  bool
	seen uint64
	last int // the version that was; 0 of none
	done bool
}

// book is a Store in a Mem, and what the chapter's words make of both.
type book struct {
	t     testing.TB
	m     *mem.Mem
	s     *chain.Store
	cells []uint64
	refs  []ref
	count int
	story []string
}

// bookOf is one in a Mem that has so many cells ahead of the store's.
func bookOf(t testing.TB, ahead int) *book {
	m := mem.New(ahead)
	b := &book{t: t, m: m, s: chain.New(m), cells: make([]uint64, ahead)}
	b.check()
	return b
}

func (b *book) fail(format string, l ...any) {
	b.t.Helper()
	b.t.Fatalf("%s: %s", strings.Join(b.story, " "), fmt.Sprintf(format, l...))
}

// has tells whether there is a version.
func (b *book) has(id uint64) bool { return id > 0 && id <= uint64(len(b.refs)) }

func (b *book) rev(id uint64) int {
	if !b.has(id) {
		return 0
	}
	return b.refs[id-1].e.Rev
}

func (b *book) at(id uint64, rev int) answer {
	for b.has(id) {
		v := b.refs[id-1]
		if v.e.Rev <= rev {
			return told(v.e)
		}
		id = uint64(v.ahead)
	}
	return answer{}
}

// revs are those at which something may be, and others.
func (b *book) revs() []int {
	l := []int{math.MinInt, -1, 0, 1, math.MaxInt}
	for _, v := range b.refs {
		l = append(l, v.e.Rev-1, v.e.Rev, v.e.Rev+1)
	}
	slices.Sort(l)
	return slices.Compact(l)
}

// check looks that all that the Store tells, and what its cells have, is what the book says.
func (b *book) check() {
	b.t.Helper()
	if l := cells(b.m); !slices.Equal(l, b.cells) {
		b.fail("the cells have %v, not %v", l, b.cells)
	}
	ids := far()
	for id := range uint64(len(b.refs) + 4) {
		ids = append(ids, id)
	}
	revs := b.revs()
	for _, id := range ids {
		if is, want := b.s.Rev(id), b.rev(id); is != want {
			b.fail("the revision of %d is %d, not %d", id, is, want)
		}
		for _, r := range revs {
			if is, want := at(b.s, id, r), b.at(id, r); is != want {
				b.fail("%d has %+v at %d, not %+v", id, is, r, want)
			}
		}
	}
	if n := b.m.Count(); n != b.count {
		b.fail("%d cells were asked, not %d", n, b.count)
	}
}

// cell is a new one.
func (b *book) cell() int {
	b.t.Helper()
	b.story = append(b.story, "cell")
	a, err := b.s.Cell()
	if a != len(b.cells) || err != api.OK {
		b.fail("it is %d, %v", a, err)
	}
	b.cells = append(b.cells, 0)
	b.check()
	return a
}

// put is an event that is put to a cell, and has done nothing.
func (b *book) put(cell int, e api.Event) *entry {
	b.t.Helper()
	b.story = append(b.story, fmt.Sprintf("put(%d, %+v)", cell, e))
	x := &entry{p: b.s.Put(cell, e), cell: cell, e: e}
	if x.p == nil {
		b.fail("it is nil")
	}
	b.check()
	return x
}

// words are what the chapter has an entry do that is stepped.
func (b *book) words(x *entry) {
	there := x.cell >= 0 && x.cell < len(b.cells)
	switch {
	case x.done:
		return
	case !x.try:
		x.seen = 0
		if there {
			x.seen = b.cells[x.cell]
		}
		x.last = 0
		if b.has(x.seen) {
			x.last = int(x.seen)
		}
		x.done = b.rev(x.seen) >= x.e.Rev
		x.try = !x.done
	case there && b.cells[x.cell] == x.seen:
		b.refs = append(b.refs, ref{x.e, x.last})
		b.cells[x.cell] = uint64(len(b.refs))
		x.done = true
	default:
		x.try = false
	}
	if there {
		b.count++
	}
}

// step lets an entry step; whether it is done then.
func (b *book) step(x *entry) bool {
	b.t.Helper()
	b.story = append(b.story, fmt.Sprintf("step(%d, %+v)", x.cell, x.e))
	b.words(x)
	if is := x.p.Step(); is != x.done {
		b.fail("done: %v", is)
	}
	b.check()
	return x.done
}

// end steps an entry until it is done; in how many steps.
func (b *book) end(x *entry) int {
	b.t.Helper()
	for n := 1; ; n++ {
		if b.step(x) {
			return n
		}
		if n > 100 {
			b.fail("no end")
		}
	}
}

// all puts events to a cell, one behind the other.
func (b *book) all(cell int, l ...api.Event) {
	b.t.Helper()
	for _, e := range l {
		b.end(b.put(cell, e))
	}
}

// store lets a cell have a number that it was given by nobody's Put.
func (b *book) store(cell int, w uint64) {
	b.t.Helper()
	b.story = append(b.story, fmt.Sprintf("store(%d, %d)", cell, w))
	b.m.Store(cell, w)
	b.count++
	b.cells[cell] = w
	b.check()
}

// P17.1: New.

func TestNew(t *testing.T) {
	if s := chain.New(nil); s != nil {
		t.Errorf("of nil: %v", s)
	}
	for _, n := range []int{0, 1, 5, api.MaxCells - 1, api.MaxCells} {
		m := mem.New(n)
		s := chain.New(m)
		if s == nil {
			t.Fatalf("of %d cells: nil", n)
		}
		if m.Len() != n || m.Count() != 0 {
			t.Errorf("of %d cells: there are %d, asked %d times", n, m.Len(), m.Count())
		}
		for _, id := range append(far(), 0, 1, 2) {
			for _, r := range odd() {
				if s.Rev(id) != 0 || at(s, id, r) != (answer{}) {
					t.Fatalf("of %d cells: %d is a version", n, id)
				}
			}
		}
	}
}

func TestNewLeavesCellsAsTheyAre(t *testing.T) {
	m := mem.New(3)
	m.Store(1, 7)
	chain.New(m)
	if l := cells(m); !slices.Equal(l, []uint64{0, 7, 0}) || m.Count() != 1 {
		t.Errorf("they have %v, asked %d times", l, m.Count())
	}
}

// P17.1: Cell.

func TestCell(t *testing.T) {
	for _, ahead := range []int{0, 1, 7} {
		b := bookOf(t, ahead)
		for n := range 5 {
			if a := b.cell(); a != ahead+n {
				b.fail("it is the cell %d", a)
			}
		}
	}
}

func TestCellIsNewWhateverTheOthersHave(t *testing.T) {
	b := bookOf(t, 2)
	b.store(0, 9)
	a := b.cell()
	b.all(a, put(1, "a", "x"))
	if c := b.cell(); c == a || b.cells[c] != 0 {
		b.fail("the cell %d has %d", c, b.cells[c])
	}
	// Whoever else lets the Mem grow.
	b.m.Grow(3)
	b.cells = append(b.cells, 0, 0, 0)
	if c := b.cell(); c != 7 {
		b.fail("it is the cell %d", c)
	}
}

func TestCellWithoutRoom(t *testing.T) {
	m := mem.New(api.MaxCells - 2)
	s := chain.New(m)
	for n := range 2 {
		if a, err := s.Cell(); a != api.MaxCells-2+n || err != api.OK {
			t.Errorf("the last but %d: %d, %v", 1-n, a, err)
		}
	}
	for range 3 {
		if a, err := s.Cell(); a != 0 || err != api.ErrMem || m.Len() != api.MaxCells {
			t.Errorf("without room: %d, %v, %d cells", a, err, m.Len())
		}
	}
	if p := s.Put(api.MaxCells-1, put(1, "a", "x")); p.Step() || !p.Step() || s.Rev(1) != 1 {
		t.Error("the last cell has no version")
	}
	if w, _ := m.Peek(api.MaxCells - 1); w != 1 {
		t.Errorf("the last cell has %d", w)
	}
	if m.Count() != 2 {
		t.Errorf("%d cells were asked", m.Count())
	}
}

// P17.1: Rev.

func TestRev(t *testing.T) {
	m := mem.New(0)
	s := chain.New(m)
	a, _ := s.Cell()
	for i, e := range []api.Event{put(2, "a", "x"), del(5, "a"), put(6, "a", "y"), put(api.MaxRev, "a", "")} {
		id := uint64(i + 1)
		if s.Rev(id) != 0 {
			t.Errorf("%d is there already", id)
		}
		for p := s.Put(a, e); !p.Step(); {
		}
		if w, _ := m.Peek(a); w != id || s.Rev(id) != e.Rev || s.Rev(id+1) != 0 || s.Rev(0) != 0 {
			t.Errorf("%+v: the cell has %d, of the revision %d", e, w, s.Rev(id))
		}
	}
	for _, id := range append(far(), 0, 5, 6) {
		if s.Rev(id) != 0 {
			t.Errorf("%d has the revision %d", id, s.Rev(id))
		}
	}
}

// P17.1: At.

func TestAt(t *testing.T) {
	m := mem.New(0)
	s := chain.New(m)
	a, _ := s.Cell()
	for _, e := range []api.Event{put(3, "a", "x"), put(4, "a", ""), del(7, "a"), put(9, "a", "y"), del(12, "a")} {
		for p := s.Put(a, e); !p.Step(); {
		}
	}
	none := answer{}
	x, empty, y := told(put(3, "a", "x")), told(put(4, "a", "")), told(put(9, "a", "y"))
	if x.kv != (api.KV{Key: "a", Val: "x", Rev: 3}) || !x.ok {
		t.Fatalf("told: %+v", x)
	}
	asked := m.Count()
	for _, c := range []struct {
		id   uint64
		rev  int
		want answer
	}{
		// The first one: below it there is none.
		{1, 3, x}, {1, 4, x}, {1, 5, x}, {1, 100, x}, {1, math.MaxInt, x},
		{1, 2, none}, {1, 1, none}, {1, 0, none}, {1, -1, none}, {1, math.MinInt, none},
		// One ahead of which one stands.
		{2, 4, empty}, {2, 5, empty}, {2, 8, empty}, {2, math.MaxInt, empty}, {2, 3, x}, {2, 2, none},
		// A deletion.
		{3, 7, none}, {3, 8, none}, {3, math.MaxInt, none}, {3, 6, empty}, {3, 5, empty}, {3, 4, empty}, {3, 3, x}, {3, 2, none}, {3, 0, none},
		// One ahead of which a deletion stands.
		{4, 9, y}, {4, 10, y}, {4, math.MaxInt, y}, {4, 8, none}, {4, 7, none}, {4, 6, empty}, {4, 3, x}, {4, 2, none}, {4, math.MinInt, none},
		// The last one.
		{5, 12, none}, {5, math.MaxInt, none}, {5, 11, y}, {5, 9, y}, {5, 8, none}, {5, 6, empty}, {5, 3, x}, {5, 2, none}, {5, -1, none},
		// None.
		{0, 0, none}, {0, 3, none}, {0, math.MaxInt, none}, {6, 12, none}, {6, math.MaxInt, none}, {math.MaxUint64, 9, none}, {math.MaxUint64, math.MaxInt, none}, {1 << 63, 9, none}, {1<<32 + 1, 9, none},
	} {
		if is := at(s, c.id, c.rev); is != c.want {
			t.Errorf("%d at %d: %+v, not %+v", c.id, c.rev, is, c.want)
		}
	}
	if m.Count() != asked {
		t.Errorf("%d cells were asked by that", m.Count()-asked)
	}
}

func TestAtTellsNothingOfADeletionWithAValue(t *testing.T) {
	b := bookOf(t, 0)
	a := b.cell()
	b.all(a, put(1, "a", "x"), api.Event{Rev: 2, Key: "a", Val: "y", Del: true})
	if is := at(b.s, 2, 2); is != (answer{}) {
		b.fail("%+v", is)
	}
	if is := at(b.s, 2, 1); is != told(put(1, "a", "x")) {
		b.fail("%+v", is)
	}
}

func TestEventsAreToldAsTheyWerePut(t *testing.T) {
	b := bookOf(t, 0)
	a := b.cell()
	long := strings.Repeat("k", 300)
	b.all(a,
		put(1, "", ""),
		put(2, "b", "\x00"),
		put(3, "\xff\x00", "\xff"),
		put(4, long, long),
		api.Event{Rev: 6, Del: true},
		put(api.MaxRev, "a", "x"),
		put(math.MaxInt-1, "a", "y"),
		put(math.MaxInt, "a", "z"),
	)
	if len(b.refs) != 8 {
		b.fail("%d versions", len(b.refs))
	}
}

func TestVersionsDontChange(t *testing.T) {
	b := bookOf(t, 0)
	first, other := b.cell(), b.cell()
	type place struct {
		id  uint64
		rev int
	}
	known, revs := map[place]answer{}, map[uint64]int{}
	for r := 1; r <= 40; r++ {
		e := put(2*r, "a", fmt.Sprint(r))
		if r%3 == 0 {
			e = del(2*r, "a")
		}
		b.all(first+r%2*(other-first), e)
		for q, want := range known {
			if is := at(b.s, q.id, q.rev); is != want {
				b.fail("%d had %+v at %d, and has %+v now", q.id, want, q.rev, is)
			}
		}
		for id, want := range revs {
			if b.s.Rev(id) != want {
				b.fail("%d was of the revision %d, and is of %d now", id, want, b.s.Rev(id))
			}
		}
		id := uint64(r)
		revs[id] = b.s.Rev(id)
		for q := range 90 {
			known[place{id, q}] = at(b.s, id, q)
		}
	}
}

// P17.2: a Put that has done nothing, and its steps.

func TestPutHasDoneNothing(t *testing.T) {
	b := bookOf(t, 1)
	a := b.cell()
	for _, cell := range odd() {
		for _, rev := range odd() {
			b.s.Put(cell, put(rev, "a", "x"))
		}
	}
	b.check()
	x, y := b.put(a, put(1, "a", "x")), b.put(a, put(2, "a", "y"))
	b.check()
	if b.end(y) != 2 || b.end(x) != 1 {
		b.fail("one that wasn't stepped was there")
	}
}

func TestStepsOfOneAlone(t *testing.T) {
	m := mem.New(0)
	s := chain.New(m)
	a, _ := s.Cell()
	for i, e := range []api.Event{put(1, "a", "x"), put(2, "a", "y"), del(3, "a"), put(9, "a", "z")} {
		was, id := cells(m), uint64(i+1)
		p := s.Put(a, e)
		if m.Count() != 2*i {
			t.Errorf("%+v: a Put that wasn't stepped has asked", e)
		}
		if p.Step() || m.Count() != 2*i+1 || !slices.Equal(cells(m), was) || s.Rev(id) != 0 {
			t.Errorf("%+v: the first step: %d cells asked, the cells have %v", e, m.Count(), cells(m))
		}
		if !p.Step() || m.Count() != 2*i+2 || !slices.Equal(cells(m), []uint64{id}) || s.Rev(id) != e.Rev {
			t.Errorf("%+v: the second step: %d cells asked, the cells have %v", e, m.Count(), cells(m))
		}
		for range 5 {
			if !p.Step() || m.Count() != 2*i+2 || !slices.Equal(cells(m), []uint64{id}) || s.Rev(id+1) != 0 {
				t.Errorf("%+v: one that is done steps: %d cells asked, the cells have %v", e, m.Count(), cells(m))
			}
		}
	}
}

func TestRevisionsBelowTheSameAndAbove(t *testing.T) {
	for _, was := range []int{0, 1, 2, 5, api.MaxRev, math.MaxInt - 1, math.MaxInt} {
		for _, rev := range append(odd(), was-1, was, was+1) {
			for _, e := range []api.Event{put(rev, "a", "y"), del(rev, "a")} {
				b := bookOf(t, 0)
				a := b.cell()
				if was > 0 {
					b.all(a, put(was, "a", "x"))
				}
				steps, last := 1, was
				if rev > was {
					steps, last = 2, rev
				}
				had := len(b.refs)
				if n := b.end(b.put(a, e)); n != steps || b.s.Rev(b.cells[a]) != last || len(b.refs) != had+steps-1 {
					b.fail("%d above %d is done in %d steps", rev, was, n)
				}
			}
		}
	}
}

func TestSameRevisionStaysTheFirstOnes(t *testing.T) {
	b := bookOf(t, 0)
	a := b.cell()
	b.all(a, put(4, "a", "x"), put(4, "a", "y"), del(4, "a"), put(4, "b", "x"), put(4, "a", "x"))
	if len(b.refs) != 1 || at(b.s, b.cells[a], 4) != told(put(4, "a", "x")) {
		b.fail("%+v", b.refs)
	}
}

func TestOneThatIsDoneStaysSo(t *testing.T) {
	b := bookOf(t, 0)
	a := b.cell()
	turned, late, never := b.put(a, put(2, "a", "x")), b.put(a, put(1, "a", "y")), b.put(a, put(0, "a", "z"))
	b.end(turned)
	b.end(late)
	b.end(never)
	// What could be tried again now.
	b.store(a, 0)
	for _, x := range []*entry{turned, late, never} {
		for range 5 {
			if !b.step(x) {
				b.fail("not done any more")
			}
		}
	}
	if b.cells[a] != 0 || len(b.refs) != 1 {
		b.fail("the cell has %d", b.cells[a])
	}
}

// P17.2: a cell that another one changed between its load and its CAS.

func TestChangedBetween(t *testing.T) {
	for _, first := range []int{0, 1, 3} {
		for mid := first + 1; mid < 9; mid++ {
			for rev := first + 1; rev < 9; rev++ {
				b := bookOf(t, 0)
				a := b.cell()
				if first > 0 {
					b.all(a, put(first, "a", "f"))
				}
				x := b.put(a, put(rev, "a", "x"))
				b.step(x)
				b.all(a, put(mid, "a", "m"))
				had := len(b.refs)
				if b.step(x) || len(b.refs) != had {
					b.fail("it was changed, and it is done")
				}
				steps := 1
				if rev > mid {
					steps = 2
				}
				if n := b.end(x); n != steps || len(b.refs) != had+steps-1 {
					b.fail("it began anew, and was done in %d steps", n)
				}
			}
		}
	}
}

func TestChangedAgainAndAgain(t *testing.T) {
	b := bookOf(t, 0)
	a := b.cell()
	x := b.put(a, put(50, "a", "x"))
	for r := 1; r < 20; r++ {
		b.step(x)
		b.all(a, put(r, "a", fmt.Sprint(r)))
		b.step(x)
	}
	if n := b.end(x); n != 2 || len(b.refs) != 20 {
		b.fail("%d steps", n)
	}
	for r := 1; r < 20; r++ {
		if is := at(b.s, b.cells[a], r); is != told(put(r, "a", fmt.Sprint(r))) {
			b.fail("at %d: %+v", r, is)
		}
	}
}

func TestItLoadsAnewBehindACASThatDidNotTurn(t *testing.T) {
	b := bookOf(t, 0)
	a := b.cell()
	x := b.put(a, put(5, "a", "x"))
	b.step(x)
	b.all(a, put(1, "a", "y"))
	b.step(x)
	// What the CAS was told isn't what counts, but what the next load is told.
	b.all(a, put(5, "a", "z"))
	if !b.step(x) || len(b.refs) != 2 {
		b.fail("it isn't done by its load")
	}
}

func TestChangedToWhatItWas(t *testing.T) {
	b := bookOf(t, 0)
	a := b.cell()
	b.all(a, put(1, "a", "x"))
	x := b.put(a, put(2, "a", "y"))
	b.step(x)
	b.store(a, 77)
	b.store(a, 1)
	if !b.step(x) || b.s.Rev(b.cells[a]) != 2 {
		b.fail("it had what it was seen to have")
	}
}

func TestChangedByAStore(t *testing.T) {
	for _, w := range []uint64{0, 1, 2, 3, 4, 77, math.MaxUint64} {
		b := bookOf(t, 0)
		a := b.cell()
		b.all(a, put(1, "a", "x"), put(2, "a", "y"))
		x := b.put(a, put(3, "a", "z"))
		b.step(x)
		b.store(a, w)
		if done := b.step(x); done != (w == 2) {
			b.fail("done: %v", done)
		}
		b.end(x)
	}
}

func TestACASThatDidNotTurnLeavesNoVersion(t *testing.T) {
	b := bookOf(t, 0)
	a, c := b.cell(), b.cell()
	x, y := b.put(a, put(1, "a", "x")), b.put(a, put(1, "a", "x"))
	b.step(x)
	b.step(y)
	b.step(x)
	if b.step(y) || b.s.Rev(2) != 0 || at(b.s, 2, math.MaxInt) != (answer{}) {
		b.fail("there is a second one")
	}
	b.all(c, put(9, "c", "z"))
	if b.cells[c] != 2 || b.s.Rev(2) != 9 {
		b.fail("the next one isn't the second")
	}
	b.end(y)
}

// P17.2: cells and stores that are apart, and cells that aren't there.

func TestCellsAreApart(t *testing.T) {
	b := bookOf(t, 1)
	a, c := b.cell(), b.cell()
	x, y := b.put(a, put(2, "a", "x")), b.put(c, put(1, "c", "y"))
	b.step(x)
	b.step(y)
	if !b.step(y) || !b.step(x) {
		b.fail("one changed the other one's cell")
	}
	b.all(c, put(4, "c", "z"))
	b.all(a, put(3, "a", "w"))
	if is := at(b.s, b.cells[a], math.MaxInt); is != told(put(3, "a", "w")) {
		b.fail("a has %+v", is)
	}
	if is := at(b.s, b.cells[a], 2); is != told(put(2, "a", "x")) {
		b.fail("a had %+v", is)
	}
	if is := at(b.s, b.cells[c], 3); is != told(put(1, "c", "y")) {
		b.fail("c had %+v", is)
	}
	if b.cells[0] != 0 {
		b.fail("a cell that is somebody else's was changed")
	}
}

func TestStoresOfOneMemAreApart(t *testing.T) {
	m := mem.New(0)
	s, u := chain.New(m), chain.New(m)
	a, _ := s.Cell()
	c, _ := u.Cell()
	if a == c {
		t.Fatalf("both have the cell %d", a)
	}
	p, q := s.Put(a, put(3, "a", "x")), u.Put(c, put(1, "c", "y"))
	for range 2 {
		p.Step()
		q.Step()
	}
	if !slices.Equal(cells(m), []uint64{1, 1}) || s.Rev(1) != 3 || u.Rev(1) != 1 || s.Rev(2) != 0 || u.Rev(2) != 0 {
		t.Errorf("cells %v, revisions %d and %d", cells(m), s.Rev(1), u.Rev(1))
	}
	if at(s, 1, 9) != told(put(3, "a", "x")) || at(u, 1, 9) != told(put(1, "c", "y")) || at(s, 1, 2) != (answer{}) {
		t.Errorf("%+v, %+v", at(s, 1, 9), at(u, 1, 9))
	}
	for p = s.Put(a, put(4, "a", "z")); !p.Step(); {
	}
	if u.Rev(2) != 0 || !slices.Equal(cells(m), []uint64{2, 1}) {
		t.Errorf("cells %v", cells(m))
	}
}

func TestACellThatIsNotThere(t *testing.T) {
	for _, cell := range []int{math.MinInt, -1 << 32, -2, -1, 2, 3, 1 << 32, api.MaxCells, math.MaxInt - 1, math.MaxInt} {
		b := bookOf(t, 1)
		b.cell()
		x := b.put(cell, put(1, "a", "x"))
		for range 20 {
			if b.step(x) {
				b.fail("it is done")
			}
		}
		for _, rev := range []int{0, -1, math.MinInt} {
			if n := b.end(b.put(cell, put(rev, "a", "x"))); n != 1 {
				b.fail("%d is done in %d steps", rev, n)
			}
		}
	}
}

func TestACellThatComes(t *testing.T) {
	for n := range 6 {
		b := bookOf(t, 0)
		x := b.put(0, put(1, "a", "x"))
		for range n {
			b.step(x)
		}
		b.cell()
		b.end(x)
		if b.cells[0] != 1 {
			b.fail("the cell has %d", b.cells[0])
		}
	}
}

func TestCellsOfSomebodyElse(t *testing.T) {
	b := bookOf(t, 3)
	for a := range 3 {
		b.all(a, put(1, "a", fmt.Sprint(a)))
	}
	if !slices.Equal(b.cells, []uint64{1, 2, 3}) {
		b.fail("cells %v", b.cells)
	}
}

// What a cell was given by nobody's Put may be no version's id: nothing stands there, also if it is one's id later.
func TestACellWithAnotherNumber(t *testing.T) {
	for _, w := range append(far(), 1, 2, 3, 5, 9) {
		b := bookOf(t, 1)
		a := b.cell()
		b.store(a, w)
		if n := b.end(b.put(a, put(0, "a", "z"))); n != 1 {
			b.fail("%d steps", n)
		}
		b.all(a, put(1, "a", "x"))
		for r := 2; r < 12; r++ {
			b.all(a, put(r, "a", fmt.Sprint(r)))
			if is := at(b.s, uint64(r), 0); is != (answer{}) {
				b.fail("below the first one: %+v", is)
			}
		}
	}
}

func TestANumberThatIsAVersionsMeanwhile(t *testing.T) {
	for w := uint64(1); w < 5; w++ {
		b := bookOf(t, 1)
		a := b.cell()
		b.store(a, w)
		x := b.put(a, put(3, "a", "x"))
		b.step(x)
		b.all(0, put(1, "b", "y"), put(5, "b", "z"))
		// The load told of no version, though there may be one by now: it doesn't stand ahead of what is put, whether its revision is lower or not.
		if !b.step(x) {
			b.fail("it isn't done")
		}
		id := b.cells[a]
		for r := range 9 {
			want := answer{}
			if r >= 3 {
				want = told(put(3, "a", "x"))
			}
			if is := at(b.s, id, r); is != want {
				b.fail("at %d: %+v, not %+v", r, is, want)
			}
		}
	}
}

// P17.2: what is nil.

func TestNil(t *testing.T) {
	var s *chain.Store
	if a, err := s.Cell(); a != 0 || err != api.ErrArg {
		t.Errorf("Cell: %d, %v", a, err)
	}
	for _, n := range odd() {
		if p := s.Put(n, put(1, "a", "x")); p != nil {
			t.Errorf("Put: %v", p)
		}
		if p := s.Put(0, put(n, "", "")); p != nil {
			t.Errorf("Put: %v", p)
		}
	}
	for _, id := range append(far(), 0, 1, 2) {
		if s.Rev(id) != 0 {
			t.Errorf("Rev: %d", s.Rev(id))
		}
		for _, r := range odd() {
			if is := at(s, id, r); is != (answer{}) {
				t.Errorf("At: %+v", is)
			}
		}
	}
	var p *chain.Put
	for range 3 {
		if !p.Step() || !s.Put(0, put(1, "a", "x")).Step() {
			t.Error("Step of a Put that is nil isn't done")
		}
	}
}

func TestAPutThatNobodyMade(t *testing.T) {
	var p chain.Put
	for range 3 {
		if !p.Step() {
			t.Error("it has something to do")
		}
	}
}
