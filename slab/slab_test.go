package slab_test

import (
	"math"
	"slices"
	"testing"

	"impost/api"
	"impost/mem"
	"impost/slab"
)

const top = math.MaxUint64

// before are how many cells a Mem of the tests has ahead of a slab's.
const before = 3

// filled is a Mem of so many cells, none of them 0.
func filled(t *testing.T, n int) *mem.Mem {
	t.Helper()
	m := mem.New(n)
	if m == nil {
		t.Fatalf("mem.New(%d) is nil", n)
	}
	for a := range n {
		if err := m.Store(a, uint64(a+100)); err != api.OK {
			t.Fatalf("Store(%d): %v", a, err)
		}
	}
	return m
}

// made is a slab behind the cells ahead of it.
func made(t *testing.T, words, most int) (*mem.Mem, *slab.Slab) {
	t.Helper()
	m := filled(t, before)
	s := slab.New(m, words, most)
	if s == nil {
		t.Fatalf("New of %d words, %d records, is nil", words, most)
	}
	return m, s
}

// taken are the refs of so many records.
func taken(t *testing.T, s *slab.Slab, n int) []slab.Ref {
	t.Helper()
	l := []slab.Ref{}
	for i := range n {
		r, err := s.Alloc()
		if err != api.OK {
			t.Fatalf("Alloc, of %d the one numbered %d: %v", n, i, err)
		}
		l = append(l, r)
	}
	return l
}

// free lets records be free, in turn.
func free(t *testing.T, s *slab.Slab, l ...slab.Ref) {
	t.Helper()
	for _, r := range l {
		if err := s.Free(r); err != api.OK {
			t.Fatalf("Free(%#x): %v", uint64(r), err)
		}
	}
}

// of is the ref of a place, at a generation.
func of(place, gen int) slab.Ref {
	return slab.Ref(gen)<<32 | slab.Ref(place+1)
}

// cellsOf are what all cells have, none of them asked.
func cellsOf(t *testing.T, m *mem.Mem) []uint64 {
	t.Helper()
	l := make([]uint64, m.Len())
	for a := range l {
		v, err := m.Peek(a)
		if err != api.OK {
			t.Fatalf("Peek(%d) of %d cells: %v", a, len(l), err)
		}
		l[a] = v
	}
	return l
}

// fillRecord lets each of a record's cells have something of its own.
func fillRecord(t *testing.T, m *mem.Mem, s *slab.Slab, r slab.Ref, words int) {
	t.Helper()
	for i := range words {
		a, err := s.Cell(r, i)
		if err != api.OK {
			t.Fatalf("Cell(%#x, %d): %v", uint64(r), i, err)
		}
		m.Store(a, uint64(a)+1<<40)
	}
}

// numbers are those that no list of so many has, and those that it has at its ends.
func numbers(n int) []int {
	return []int{math.MinInt, -(1 << 32), -2, -1, 0, n - 1, n, n + 1, api.MaxCells, 1 << 32, math.MaxInt}
}

// P2.1: New.

func TestNewOfNoMem(t *testing.T) {
	for _, n := range numbers(2) {
		for _, most := range numbers(2) {
			if s := slab.New(nil, n, most); s != nil {
				t.Errorf("New(nil, %d, %d) isn't nil", n, most)
			}
		}
	}
}

// refused looks that New answers nil, and leaves the Mem as it was.
func refused(t *testing.T, m *mem.Mem, words, most int) {
	t.Helper()
	was, count := cellsOf(t, m), m.Count()
	if s := slab.New(m, words, most); s != nil {
		t.Errorf("New of %d words, %d records, behind %d cells, isn't nil", words, most, len(was))
	}
	if !slices.Equal(cellsOf(t, m), was) || m.Count() != count {
		t.Errorf("New of %d words, %d records, is nil, but the Mem isn't as it was: %d cells, %d calls", words, most, m.Len(), m.Count())
	}
}

func TestNewBelowOne(t *testing.T) {
	m := filled(t, before)
	for _, low := range []int{0, -1, -2, -7, -(1 << 32), math.MinInt, math.MinInt + 1} {
		for _, other := range []int{1, 2, -1, -3, 0, math.MinInt, math.MaxInt} {
			refused(t, m, low, other)
			refused(t, m, other, low)
		}
	}
}

func TestNewWithoutRoom(t *testing.T) {
	full := func(left int) *mem.Mem { return filled(t, api.MaxCells-left) }
	cases := []struct {
		m           *mem.Mem
		words, most int
	}{
		{full(0), 1, 1},
		{full(1), 2, 1},
		{full(1), 1, 2},
		{full(5), 2, 3},
		{full(5), 3, 2},
		{full(11), 3, 4},
		{full(11), 12, 1},
		{full(api.MaxCells - before), 1, api.MaxCells - before + 1},
		{full(api.MaxCells - before), api.MaxCells, 1},
		{mem.New(0), 1, api.MaxCells + 1},
		{mem.New(0), api.MaxCells + 1, 1},
		{mem.New(0), 2, api.MaxCells/2 + 1},
		{mem.New(0), api.MaxCells/2 + 1, 2},
		{mem.New(0), 257, 256},
		{mem.New(0), 3, 21846},
	}
	for _, c := range cases {
		refused(t, c.m, c.words, c.most)
	}
}

// What is multiplied here would wrap round, and some of it would be few cells.
func TestNewOfFarTooMuch(t *testing.T) {
	for _, c := range [][2]int{
		{1 << 32, 1 << 32},
		{1 << 62, 4},
		{1 << 31, 1 << 33},
		{math.MaxInt, 2},
		{math.MaxInt, math.MaxInt},
		{math.MaxInt, 1},
		{7, 0x6DB6DB6DB6DB6DB7},
		{1<<32 + 1, 1 << 32},
		{1<<16 + 1, 1<<48 + 1},
		{api.MaxCells, api.MaxCells},
		{math.MaxInt/3 + 1, 3},
		{3 << 61, 8},
	} {
		for _, m := range []*mem.Mem{mem.New(0), filled(t, before), filled(t, api.MaxCells)} {
			refused(t, m, c[0], c[1])
			refused(t, m, c[1], c[0])
		}
	}
}

func TestNewGrowsItsMem(t *testing.T) {
	for _, n := range []int{0, 1, 10} {
		for _, c := range [][2]int{{1, 1}, {1, 5}, {5, 1}, {2, 3}, {3, 2}, {4, 4}, {16, 100}} {
			m := filled(t, n)
			s := slab.New(m, c[0], c[1])
			if s == nil {
				t.Fatalf("New of %d words, %d records, is nil", c[0], c[1])
			}
			want := append(cellsOf(t, filled(t, n)), make([]uint64, c[0]*c[1])...)
			if got := cellsOf(t, m); !slices.Equal(got, want) {
				t.Errorf("New of %d words, %d records, behind %d cells: %v", c[0], c[1], n, got)
			}
			if m.Count() != n || s.Live() != 0 {
				t.Errorf("New of %d words, %d records: Count %d, Live %d", c[0], c[1], m.Count()-n, s.Live())
			}
		}
	}
}

func TestNewToTheLimit(t *testing.T) {
	for _, c := range [][3]int{
		{0, 1, api.MaxCells}, {0, api.MaxCells, 1}, {0, 256, 256}, {0, 2, api.MaxCells / 2},
		{1, 3, 21845}, {1, 21845, 3}, {api.MaxCells - 6, 2, 3}, {api.MaxCells - 5, 5, 1}, {api.MaxCells - 1, 1, 1},
	} {
		n, words, most := c[0], c[1], c[2]
		m := filled(t, n)
		s := slab.New(m, words, most)
		if s == nil || m.Len() != api.MaxCells {
			t.Fatalf("New of %d words, %d records, behind %d cells: %v, %d", words, most, n, s, m.Len())
		}
		l := taken(t, s, most)
		if a, err := s.Cell(l[most-1], words-1); a != api.MaxCells-1 || err != api.OK {
			t.Errorf("New of %d words, %d records: the last cell is %d, %v", words, most, a, err)
		}
		if r, err := s.Alloc(); r != 0 || err != api.ErrMem {
			t.Errorf("New of %d words, %d records: one more: %#x, %v", words, most, uint64(r), err)
		}
	}
}

// A slab's own cells are those that were there when it was made, whatever the Mem grows by.
func TestWhereRecordsStand(t *testing.T) {
	for _, c := range [][2]int{{1, 1}, {1, 4}, {4, 1}, {3, 5}, {5, 3}} {
		words, most := c[0], c[1]
		m, s := made(t, words, most)
		m.Grow(7)
		for p, r := range taken(t, s, most) {
			for i := range words {
				if a, err := s.Cell(r, i); a != before+p*words+i || err != api.OK {
					t.Errorf("%d words, %d records: cell %d at the place %d: %d, %v", words, most, i, p, a, err)
				}
			}
		}
	}
}

func TestAllAreFreeAtFirst(t *testing.T) {
	for _, most := range []int{1, 2, 5} {
		_, s := made(t, 2, most)
		for p := range most {
			for _, r := range []slab.Ref{of(p, 0), of(p, 1)} {
				if err := s.Free(r); err != api.ErrNone {
					t.Errorf("%d records: Free(%#x): %v", most, uint64(r), err)
				}
				if a, err := s.Cell(r, 0); a != 0 || err != api.ErrNone {
					t.Errorf("%d records: Cell(%#x, 0): %d, %v", most, uint64(r), a, err)
				}
			}
		}
		if s.Live() != 0 || len(taken(t, s, most)) != most {
			t.Errorf("%d records: Live %d", most, s.Live())
		}
	}
}

// P2.2: Alloc.

func TestTheLowestPlaceFirst(t *testing.T) {
	_, s := made(t, 2, 5)
	for p := range 5 {
		r, err := s.Alloc()
		if r != of(p, 1) || err != api.OK {
			t.Errorf("Alloc, at the place %d: %#x, %v", p, uint64(r), err)
		}
		if s.Live() != p+1 {
			t.Errorf("Live %d behind %d", s.Live(), p+1)
		}
	}
}

func TestNoneIsFree(t *testing.T) {
	for _, most := range []int{1, 2, 7} {
		m, s := made(t, 3, most)
		l := taken(t, s, most)
		for _, r := range l {
			fillRecord(t, m, s, r, 3)
		}
		was, count := cellsOf(t, m), m.Count()
		for range 3 {
			if r, err := s.Alloc(); r != 0 || err != api.ErrMem {
				t.Errorf("%d records, all taken: %#x, %v", most, uint64(r), err)
			}
		}
		if s.Live() != most || m.Count() != count || !slices.Equal(cellsOf(t, m), was) {
			t.Errorf("%d records, all taken: Live %d, or the cells were asked", most, s.Live())
		}
		free(t, s, l[most/2])
		if r, err := s.Alloc(); r != of(most/2, 2) || err != api.OK {
			t.Errorf("%d records, one free again: %#x, %v", most, uint64(r), err)
		}
		if r, err := s.Alloc(); r != 0 || err != api.ErrMem {
			t.Errorf("%d records, all taken again: %#x, %v", most, uint64(r), err)
		}
	}
}

// The one example: two records, one freed and taken again.
func TestTheSamePlaceTheNextGeneration(t *testing.T) {
	_, s := made(t, 2, 2)
	l := taken(t, s, 2)
	free(t, s, l[0])
	r, err := s.Alloc()
	if err != api.OK || slab.Place(r) != slab.Place(l[0]) || slab.Gen(l[0]) != 1 || slab.Gen(r) != 2 {
		t.Errorf("taken again: %#x, %v; it was %#x", uint64(r), err, uint64(l[0]))
	}
	if slab.Place(l[1]) != 1 || slab.Gen(l[1]) != 1 {
		t.Errorf("the other one: %#x", uint64(l[1]))
	}
}

// Those that never were taken were free ahead of those that were freed; of these, the one freed first is first.
func TestTheOneThatWasFreeFirst(t *testing.T) {
	_, s := made(t, 1, 5)
	l := taken(t, s, 4)
	free(t, s, l[2], l[0], l[3], l[1])
	want := []slab.Ref{of(4, 1), of(2, 2), of(0, 2), of(3, 2), of(1, 2)}
	if got := taken(t, s, 5); !slices.Equal(got, want) {
		t.Errorf("taken: %x, want %x", got, want)
	}
	free(t, s, want[0], want[4])
	if got := taken(t, s, 1); got[0] != of(4, 2) {
		t.Errorf("taken: %x", got)
	}
	free(t, s, of(4, 2), want[1])
	want = []slab.Ref{of(1, 3), of(4, 3), of(2, 3)}
	if got := taken(t, s, 3); !slices.Equal(got, want) {
		t.Errorf("taken: %x, want %x", got, want)
	}
}

func TestGenerationsOfOnePlace(t *testing.T) {
	_, s := made(t, 1, 1)
	for g := range 300 {
		r, err := s.Alloc()
		if r != of(0, g+1) || err != api.OK {
			t.Fatalf("Alloc, at the generation %d: %#x, %v", g+1, uint64(r), err)
		}
		free(t, s, r)
	}
}

func TestAllocSetsToZero(t *testing.T) {
	m, s := made(t, 4, 3)
	l := taken(t, s, 3)
	for _, r := range l {
		fillRecord(t, m, s, r, 4)
	}
	want := cellsOf(t, m)
	free(t, s, l[1])
	if got := cellsOf(t, m); !slices.Equal(got, want) {
		t.Errorf("freed: %v, want %v", got, want)
	}
	// What is done to its cells while it is free is gone, too.
	m.Store(before+4, top)
	taken(t, s, 1)
	copy(want[before+4:before+8], make([]uint64, 4))
	if got := cellsOf(t, m); !slices.Equal(got, want) {
		t.Errorf("taken again: %v, want %v", got, want)
	}
}

// A record that never was taken is set to 0 just so: its cells may have been asked since New.
func TestFirstAllocSetsToZero(t *testing.T) {
	m, s := made(t, 2, 2)
	for a := before; a < before+4; a++ {
		m.Store(a, top)
	}
	want := cellsOf(t, m)
	for p := range 2 {
		taken(t, s, 1)
		copy(want[before+2*p:before+2*p+2], []uint64{0, 0})
		if got := cellsOf(t, m); !slices.Equal(got, want) {
			t.Errorf("taken: %v, want %v", got, want)
		}
	}
}

func TestWhatAsksCells(t *testing.T) {
	for _, words := range []int{1, 2, 9} {
		m, s := made(t, words, 2)
		count := m.Count()
		for i, call := range []func(){
			func() { s.Alloc() }, func() { s.Alloc() },
			func() { s.Alloc() }, func() { s.Cell(of(1, 1), 0) }, func() { s.Cell(of(1, 1), words) },
			func() { s.Cell(of(1, 2), 0) }, func() { s.Free(of(1, 2)) }, func() { s.Live() },
			func() { s.Free(of(1, 1)) }, func() { s.Alloc() },
		} {
			call()
			if i < 2 || i == 9 {
				count += words
			}
			if m.Count() != count || m.Len() != before+2*words {
				t.Errorf("%d words, call %d: Count %d, want %d; Len %d", words, i, m.Count(), count, m.Len())
			}
		}
	}
}

// P2.2: Free, Cell and Live.

func TestFree(t *testing.T) {
	_, s := made(t, 1, 4)
	l := taken(t, s, 4)
	for i, j := range []int{2, 0, 3, 1} {
		if err := s.Free(l[j]); err != api.OK || s.Live() != 3-i {
			t.Errorf("Free(%#x): %v; Live %d", uint64(l[j]), err, s.Live())
		}
		if err := s.Free(l[j]); err != api.ErrNone || s.Live() != 3-i {
			t.Errorf("Free(%#x), again: %v; Live %d", uint64(l[j]), err, s.Live())
		}
	}
}

// wrong are refs that aren't of one of four records, of which that at the place 1 is free, of the generation 1, and that at 2 is taken for the third time.
func wrong() []slab.Ref {
	l := []slab.Ref{
		0, 1 << 32, 3 << 32, top &^ (1<<32 - 1), // the place -1
		1<<32 - 1, top, 1<<33 - 1, 1 << 31, 1<<32 | 1<<31, // far places
		1<<63 | 1, // a far generation
	}
	for _, p := range []int{0, 1, 2, 3, 4, 5, 1 << 16, 1<<32 - 2} {
		for _, g := range []int{0, 1, 2, 3, 4, 1 << 16, 1 << 31, 1<<32 - 1, 1<<31 + 1, 1<<31 + 3} {
			if (p == 0 || p == 3) && g == 1 || p == 2 && g == 3 {
				continue
			}
			l = append(l, of(p, g))
		}
	}
	return l
}

func TestRefsOfNoRecord(t *testing.T) {
	m, s := made(t, 2, 4)
	l := taken(t, s, 4)
	free(t, s, l[2])
	free(t, s, taken(t, s, 1)...)
	l[2] = taken(t, s, 1)[0]
	for _, r := range l {
		fillRecord(t, m, s, r, 2)
	}
	free(t, s, l[1])
	was, count := cellsOf(t, m), m.Count()
	for _, r := range wrong() {
		if err := s.Free(r); err != api.ErrNone {
			t.Errorf("Free(%#x): %v", uint64(r), err)
		}
		for _, i := range numbers(2) {
			if a, err := s.Cell(r, i); a != 0 || err != api.ErrNone {
				t.Errorf("Cell(%#x, %d): %d, %v", uint64(r), i, a, err)
			}
		}
	}
	if s.Live() != 3 || m.Count() != count || !slices.Equal(cellsOf(t, m), was) {
		t.Errorf("Live %d, Count %d, %v", s.Live(), m.Count()-count, cellsOf(t, m))
	}
	for _, p := range []int{0, 2, 3} {
		if a, err := s.Cell(l[p], 1); a != before+2*p+1 || err != api.OK {
			t.Errorf("Cell(%#x, 1): %d, %v", uint64(l[p]), a, err)
		}
	}
	if r, err := s.Alloc(); r != of(1, 2) || err != api.OK {
		t.Errorf("the free one: %#x, %v", uint64(r), err)
	}
	if r, err := s.Alloc(); r != 0 || err != api.ErrMem {
		t.Errorf("and then: %#x, %v", uint64(r), err)
	}
}

func TestCellsBeyondARecord(t *testing.T) {
	for _, words := range []int{1, 2, 6} {
		m, s := made(t, words, 3)
		for p, r := range taken(t, s, 3) {
			count := m.Count()
			for _, i := range numbers(words) {
				a, err := s.Cell(r, i)
				if i >= 0 && i < words {
					if a != before+p*words+i || err != api.OK {
						t.Errorf("%d words: Cell %d at the place %d: %d, %v", words, i, p, a, err)
					}
				} else if a != 0 || err != api.ErrArg {
					t.Errorf("%d words: Cell %d at the place %d: %d, %v", words, i, p, a, err)
				}
			}
			if m.Count() != count || s.Live() != 3 {
				t.Errorf("%d words: Count %d, Live %d", words, m.Count()-count, s.Live())
			}
		}
	}
}

// A record is had at the same cells all along, however many others are taken and freed.
func TestARecordStaysWhereItIs(t *testing.T) {
	m, s := made(t, 2, 3)
	l := taken(t, s, 2)
	fillRecord(t, m, s, l[1], 2)
	for range 20 {
		free(t, s, taken(t, s, 1)...)
		for i := range 2 {
			a, err := s.Cell(l[1], i)
			if v, _ := m.Peek(a); a != before+2+i || err != api.OK || v != uint64(a)+1<<40 {
				t.Errorf("Cell(%#x, %d): %d, %v; it has %d", uint64(l[1]), i, a, err, v)
			}
		}
	}
}

// P2.2: Place and Gen.

func TestPlaceAndGen(t *testing.T) {
	for _, c := range []struct {
		r          slab.Ref
		place, gen int
	}{
		{0, -1, 0},
		{1, 0, 0},
		{2, 1, 0},
		{1<<16 + 1, 1 << 16, 0},
		{1 << 31, 1<<31 - 1, 0},
		{1<<31 + 1, 1 << 31, 0},
		{1<<32 - 1, 1<<32 - 2, 0},
		{1 << 32, -1, 1},
		{1<<32 + 1, 0, 1},
		{1<<33 + 5, 4, 2},
		{1 << 63, -1, 1 << 31},
		{1<<63 + 7, 6, 1 << 31},
		{1<<63 - 1, 1<<32 - 2, 1<<31 - 1},
		{top, 1<<32 - 2, 1<<32 - 1},
		{top - 1<<32 + 1, -1, 1<<32 - 1},
	} {
		if p, g := slab.Place(c.r), slab.Gen(c.r); p != c.place || g != c.gen {
			t.Errorf("%#x: Place %d, Gen %d; want %d, %d", uint64(c.r), p, g, c.place, c.gen)
		}
	}
}

// P2.2, R5: a Slab that is nil, whatever else is handed in.

func TestNil(t *testing.T) {
	var s *slab.Slab
	if r, err := s.Alloc(); r != 0 || err != api.ErrArg {
		t.Errorf("Alloc: %#x, %v", uint64(r), err)
	}
	for _, r := range append(wrong(), of(0, 1), of(2, 3)) {
		if err := s.Free(r); err != api.ErrArg {
			t.Errorf("Free(%#x): %v", uint64(r), err)
		}
		for _, i := range numbers(1) {
			if a, err := s.Cell(r, i); a != 0 || err != api.ErrArg {
				t.Errorf("Cell(%#x, %d): %d, %v", uint64(r), i, a, err)
			}
		}
	}
	if s.Live() != 0 {
		t.Errorf("Live %d", s.Live())
	}
}

// Ways: a slab is asked by its Mem's methods.

func TestASlabIsItsMem(t *testing.T) {
	m, s := made(t, 2, 2)
	a, _ := s.Cell(taken(t, s, 2)[1], 1)
	if err := s.Store(a, 5); err != api.OK {
		t.Errorf("Store: %v", err)
	}
	if v, ok := s.CAS(a, 5, 7); v != 5 || !ok {
		t.Errorf("CAS: %d, %v", v, ok)
	}
	if v, err := m.Load(a); v != 7 || err != api.OK {
		t.Errorf("Load: %d, %v", v, err)
	}
	if s.Len() != m.Len() || s.Count() != m.Count() {
		t.Errorf("Len %d, Count %d; the Mem's %d, %d", s.Len(), s.Count(), m.Len(), m.Count())
	}
}

// P2.3.

func TestSlabsStandApart(t *testing.T) {
	m := filled(t, before)
	a, b := slab.New(m, 2, 2), slab.New(m, 3, 1)
	la, lb := taken(t, a, 2), taken(t, b, 1)
	for i := range 3 {
		if c, err := b.Cell(lb[0], i); c != before+4+i || err != api.OK {
			t.Errorf("the second one: Cell %d: %d, %v", i, c, err)
		}
	}
	fillRecord(t, m, b, lb[0], 3)
	was := cellsOf(t, m)
	free(t, a, la...)
	taken(t, a, 2)
	if got := cellsOf(t, m); !slices.Equal(got, was) {
		t.Errorf("the first one taken again: %v, want %v", got, was)
	}
	if a.Live() != 2 || b.Live() != 1 {
		t.Errorf("Live %d, %d", a.Live(), b.Live())
	}
}

// seen is what a test knows of a slab: by place, how often it was taken, and whether it is; the free places, in turn; all refs that were told.
type seen struct {
	gens  []int
	taken []bool
	free  []int
	told  map[slab.Ref]bool
}

func newSeen(most int) *seen {
	w := &seen{gens: make([]int, most), taken: make([]bool, most), told: map[slab.Ref]bool{}}
	for p := range most {
		w.free = append(w.free, p)
	}
	return w
}

// alloc holds an Alloc against what is known.
func (w *seen) alloc(t *testing.T, s *slab.Slab) (slab.Ref, bool) {
	t.Helper()
	r, err := s.Alloc()
	if len(w.free) == 0 {
		if r != 0 || err != api.ErrMem {
			t.Fatalf("Alloc, where none is free: %#x, %v", uint64(r), err)
		}
		return 0, false
	}
	p := w.free[0]
	w.free = w.free[1:]
	w.gens[p]++
	w.taken[p] = true
	if r != of(p, w.gens[p]) || err != api.OK || slab.Place(r) != p || slab.Gen(r) != w.gens[p] {
		t.Fatalf("Alloc: %#x, %v; want the place %d, the generation %d", uint64(r), err, p, w.gens[p])
	}
	if w.told[r] {
		t.Fatalf("%#x is told twice", uint64(r))
	}
	w.told[r] = true
	return r, true
}

// has tells whether a ref is of a record that isn't free.
func (w *seen) has(r slab.Ref) bool {
	for p := range w.gens {
		if w.taken[p] && r == of(p, w.gens[p]) {
			return true
		}
	}
	return false
}

// drop holds a Free against what is known.
func (w *seen) drop(t *testing.T, s *slab.Slab, r slab.Ref) {
	t.Helper()
	want := api.ErrNone
	if w.has(r) {
		want = api.OK
		w.taken[slab.Place(r)] = false
		w.free = append(w.free, slab.Place(r))
	}
	if err := s.Free(r); err != want {
		t.Fatalf("Free(%#x): %v, want %v", uint64(r), err, want)
	}
}

// cells holds the cells of all refs that were ever told against what is known, and each cell against all others.
func (w *seen) cells(t *testing.T, s *slab.Slab, words int) {
	t.Helper()
	whose := map[int]slab.Ref{}
	for r := range w.told {
		for i := range words {
			a, err := s.Cell(r, i)
			if !w.has(r) {
				if a != 0 || err != api.ErrNone {
					t.Fatalf("Cell(%#x, %d), of one that was freed: %d, %v", uint64(r), i, a, err)
				}
				continue
			}
			if a != before+slab.Place(r)*words+i || err != api.OK {
				t.Fatalf("Cell(%#x, %d): %d, %v", uint64(r), i, a, err)
			}
			if other, ok := whose[a]; ok {
				t.Fatalf("the cell %d is that of %#x, and of %#x", a, uint64(r), uint64(other))
			}
			whose[a] = r
		}
	}
}

// TestLikeAList holds many calls against a list of places.
func TestLikeAList(t *testing.T) {
	seed := uint64(1)
	next := func(n int) int { // a rule of its own: the same each time
		seed = seed*6364136223846793005 + 1442695040888963407
		return int(seed>>33) % n
	}
	for _, c := range [][2]int{{1, 1}, {2, 2}, {3, 5}, {1, 8}} {
		words, most := c[0], c[1]
		m, s := made(t, words, most)
		w := newSeen(most)
		want := cellsOf(t, m)
		for i := range 400 {
			switch next(4) {
			case 0, 1:
				if r, ok := w.alloc(t, s); ok {
					p := before + slab.Place(r)*words
					copy(want[p:p+words], make([]uint64, words))
				}
			case 2:
				w.drop(t, s, of(next(most+2)-1, next(i/most+2)))
			case 3:
				p := next(most)
				w.drop(t, s, of(p, w.gens[p]))
			}
			if s.Live() != most-len(w.free) {
				t.Fatalf("call %d: Live %d, want %d", i, s.Live(), most-len(w.free))
			}
			if got := cellsOf(t, m); !slices.Equal(got, want) {
				t.Fatalf("call %d: %v, want %v", i, got, want)
			}
			w.cells(t, s, words)
			a := before + next(words*most)
			want[a] = uint64(i + 1)
			m.Store(a, want[a])
		}
	}
}

// P1: no call panics, at all arguments.

func TestNoCallPanics(t *testing.T) {
	refs := append(wrong(), of(0, 1), of(1, 1), of(2, 3), of(3, 1))
	for _, m := range []*mem.Mem{nil, mem.New(0), mem.New(4), mem.New(api.MaxCells)} {
		for _, words := range append(numbers(2), 3) {
			for _, most := range append(numbers(2), 3) {
				s := slab.New(m, words, most)
				s.Alloc()
				for _, r := range refs {
					slab.Place(r)
					slab.Gen(r)
					for _, i := range numbers(2) {
						s.Cell(r, i)
					}
					s.Free(r)
					s.Alloc()
				}
				if s.Live() < 0 || s.Live() > api.MaxCells {
					t.Errorf("New of %d words, %d records: Live %d", words, most, s.Live())
				}
			}
		}
	}
}
