package mem_test

import (
	"math"
	"slices"
	"testing"

	"impost/api"
	"impost/mem"
)

const top = math.MaxUint64

// cellsOf are what all cells have, none of them asked.
func cellsOf(t *testing.T, m *mem.Mem) []uint64 {
	t.Helper()
	l := make([]uint64, m.Len())
	for a := range l {
		v, err := m.Peek(a)
		if err != api.OK {
			t.Fatalf("Peek(%d) of %d cells: %v", a, len(l), err)
		}
		l[a] = v
	}
	return l
}

// filled is a Mem whose cell a has 10 a and 10; so many calls were counted.
func filled(t *testing.T, n int) *mem.Mem {
	t.Helper()
	m := mem.New(n)
	if m == nil {
		t.Fatalf("New(%d) is nil", n)
	}
	for a := range n {
		if err := m.Store(a, uint64(10*a+10)); err != api.OK {
			t.Fatalf("Store(%d): %v", a, err)
		}
	}
	return m
}

// nowhere are numbers of cells that aren't among n.
func nowhere(n int) []int {
	return []int{-1, -2, n, n + 1, api.MaxCells, 1 << 32, -(1 << 32), math.MaxInt, math.MinInt}
}

// P1.1: New.

func TestNewThatMayNotBe(t *testing.T) {
	for _, n := range []int{-1, -2, math.MinInt, api.MaxCells + 1, 2 * api.MaxCells, 1 << 32, math.MaxInt} {
		if m := mem.New(n); m != nil {
			t.Errorf("New(%d) isn't nil", n)
		}
	}
}

func TestNewCellsAreZero(t *testing.T) {
	for _, n := range []int{0, 1, 2, 17, api.MaxCells - 1, api.MaxCells} {
		m := mem.New(n)
		if m == nil {
			t.Fatalf("New(%d) is nil", n)
		}
		if m.Len() != n || m.Count() != 0 {
			t.Errorf("New(%d): Len %d, Count %d", n, m.Len(), m.Count())
		}
		for a, v := range cellsOf(t, m) {
			if v != 0 {
				t.Fatalf("New(%d): cell %d has %d", n, a, v)
			}
		}
		if _, err := m.Load(n); err != api.ErrArg {
			t.Errorf("New(%d): Load(%d): %v", n, n, err)
		}
	}
}

// P1.1: Load, Store, CAS and Add.

func TestStoreAndLoad(t *testing.T) {
	m := mem.New(3)
	for _, a := range []int{0, 1, 2} {
		for _, v := range []uint64{1, top, 1 << 63, 0, 7} {
			if err := m.Store(a, v); err != api.OK {
				t.Errorf("Store(%d, %d): %v", a, v, err)
			}
			if got, err := m.Load(a); got != v || err != api.OK {
				t.Errorf("Load(%d): %d, %v; stored %d", a, got, err, v)
			}
		}
	}
}

func TestCAS(t *testing.T) {
	cases := []struct {
		has, old, next uint64
		ok             bool
		then           uint64
	}{
		{5, 5, 7, true, 7},
		{7, 5, 9, false, 7},
		{0, 0, 1, true, 1},
		{0, 1, 2, false, 0},
		{5, 5, 5, true, 5},
		{5, 7, 5, false, 5},
		{top, top, 0, true, 0},
		{0, top, 3, false, 0},
		{0, 0, top, true, top},
		{1, 1 + 1<<32, 9, false, 1},
		{1 << 63, 1 << 63, 1, true, 1},
	}
	for _, c := range cases {
		m := mem.New(4)
		m.Store(3, c.has)
		if was, ok := m.CAS(3, c.old, c.next); was != c.has || ok != c.ok {
			t.Errorf("CAS of %d and %d, where %d is: %d, %v", c.old, c.next, c.has, was, ok)
		}
		if v, _ := m.Load(3); v != c.then {
			t.Errorf("CAS of %d and %d, where %d was: then %d", c.old, c.next, c.has, v)
		}
	}
}

func TestAddModulo(t *testing.T) {
	cases := []struct{ has, n, then uint64 }{
		{5, 2, 7},
		{5, 0, 5},
		{0, top, top},
		{top, 1, 0},
		{top, top, top - 1},
		{2, top, 1},
		{1 << 63, 1 << 63, 0},
		{math.MaxUint32, 1, 1 << 32},
		{math.MaxInt64, 1, 1 << 63},
	}
	for _, c := range cases {
		m := mem.New(2)
		m.Store(1, c.has)
		if was, err := m.Add(1, c.n); was != c.has || err != api.OK {
			t.Errorf("Add of %d to %d: %d, %v", c.n, c.has, was, err)
		}
		if v, _ := m.Load(1); v != c.then {
			t.Errorf("Add of %d to %d: then %d", c.n, c.has, v)
		}
	}
}

func TestCellsThatThereArent(t *testing.T) {
	for _, n := range []int{0, 1, 4} {
		m := filled(t, n)
		was, count := cellsOf(t, m), m.Count()
		for _, a := range nowhere(n) {
			if v, err := m.Load(a); v != 0 || err != api.ErrArg {
				t.Errorf("%d cells: Load(%d): %d, %v", n, a, v, err)
			}
			if v, err := m.Peek(a); v != 0 || err != api.ErrArg {
				t.Errorf("%d cells: Peek(%d): %d, %v", n, a, v, err)
			}
			if err := m.Store(a, 3); err != api.ErrArg {
				t.Errorf("%d cells: Store(%d): %v", n, a, err)
			}
			if v, ok := m.CAS(a, 0, 3); v != 0 || ok {
				t.Errorf("%d cells: CAS(%d): %d, %v", n, a, v, ok)
			}
			if v, err := m.Add(a, 3); v != 0 || err != api.ErrArg {
				t.Errorf("%d cells: Add(%d): %d, %v", n, a, v, err)
			}
		}
		if !slices.Equal(cellsOf(t, m), was) || m.Len() != n {
			t.Errorf("%d cells: changed: %v, was %v", n, cellsOf(t, m), was)
		}
		if m.Count() != count {
			t.Errorf("%d cells: Count %d, was %d", n, m.Count(), count)
		}
	}
}

// P1.2: Count and Peek.

func TestWhatCounts(t *testing.T) {
	cases := []struct {
		name string
		call func(m *mem.Mem)
		more int
	}{
		{"Load", func(m *mem.Mem) { m.Load(0) }, 1},
		{"Store", func(m *mem.Mem) { m.Store(1, 4) }, 1},
		{"Store of what is there", func(m *mem.Mem) { m.Store(1, 20) }, 1},
		{"CAS that turns", func(m *mem.Mem) { m.CAS(0, 10, 1) }, 1},
		{"CAS that doesn't", func(m *mem.Mem) { m.CAS(0, 11, 1) }, 1},
		{"CAS to the same", func(m *mem.Mem) { m.CAS(0, 10, 10) }, 1},
		{"Add", func(m *mem.Mem) { m.Add(1, 1) }, 1},
		{"Add of 0", func(m *mem.Mem) { m.Add(1, 0) }, 1},
		{"Peek", func(m *mem.Mem) { m.Peek(0) }, 0},
		{"Grow", func(m *mem.Mem) { m.Grow(3) }, 0},
		{"Grow of 0", func(m *mem.Mem) { m.Grow(0) }, 0},
		{"Grow too far", func(m *mem.Mem) { m.Grow(api.MaxCells) }, 0},
		{"Len", func(m *mem.Mem) { m.Len() }, 0},
		{"Count", func(m *mem.Mem) { m.Count() }, 0},
		{"Load beyond", func(m *mem.Mem) { m.Load(2) }, 0},
		{"Peek beyond", func(m *mem.Mem) { m.Peek(2) }, 0},
		{"Store beyond", func(m *mem.Mem) { m.Store(-1, 1) }, 0},
		{"CAS beyond", func(m *mem.Mem) { m.CAS(2, 0, 1) }, 0},
		{"Add beyond", func(m *mem.Mem) { m.Add(-1, 1) }, 0},
	}
	for _, c := range cases {
		m := filled(t, 2)
		if m.Count() != 2 {
			t.Fatalf("two were stored: Count %d", m.Count())
		}
		for i := range 3 {
			c.call(m)
			if want := 2 + (i+1)*c.more; m.Count() != want {
				t.Errorf("%s: Count %d, want %d", c.name, m.Count(), want)
			}
		}
	}
}

func TestPeekIsAsLoad(t *testing.T) {
	m := filled(t, 5)
	for _, a := range append([]int{0, 1, 2, 3, 4}, nowhere(5)...) {
		v, err := m.Peek(a)
		if w, e := m.Load(a); v != w || err != e {
			t.Errorf("cell %d: Peek %d, %v; Load %d, %v", a, v, err, w, e)
		}
	}
	if v, _ := m.Peek(4); v != 50 {
		t.Errorf("Peek(4): %d", v)
	}
}

// P1.2: Grow and Len.

func TestGrow(t *testing.T) {
	m := filled(t, 2)
	for _, c := range []struct{ n, first int }{{3, 2}, {0, 5}, {1, 5}, {0, 6}, {10, 6}} {
		if a, err := m.Grow(c.n); a != c.first || err != api.OK || m.Len() != c.first+c.n {
			t.Errorf("Grow(%d): %d, %v; Len %d", c.n, a, err, m.Len())
		}
	}
	want := append([]uint64{10, 20}, make([]uint64, 14)...)
	if got := cellsOf(t, m); !slices.Equal(got, want) {
		t.Errorf("grown: %v", got)
	}
}

func TestGrownCellsAreLikeOthers(t *testing.T) {
	m := mem.New(0)
	want := []uint64{}
	for i := range 40 {
		a, err := m.Grow(i % 4)
		if a != len(want) || err != api.OK {
			t.Fatalf("Grow(%d): %d, %v", i%4, a, err)
		}
		for range i % 4 {
			want = append(want, 0)
		}
		// What was grown is changed at once: what comes later must be 0 all the same.
		for b := a; b < len(want); b++ {
			want[b] = uint64(1000*i + b)
			m.Store(b, want[b])
		}
		if got := cellsOf(t, m); !slices.Equal(got, want) {
			t.Fatalf("after %d: %v, want %v", i, got, want)
		}
	}
}

func TestGrowToTheLimit(t *testing.T) {
	for _, n := range []int{0, 1, 100, api.MaxCells - 1, api.MaxCells} {
		m := mem.New(n)
		left := api.MaxCells - n
		for _, more := range []int{left + 1, left + 2, api.MaxCells + 1, 1 << 32, math.MaxInt, math.MaxInt - n, -1, -2, -n - 1, math.MinInt} {
			if a, err := m.Grow(more); a != 0 || err != api.ErrMem || m.Len() != n {
				t.Errorf("%d cells: Grow(%d): %d, %v; Len %d", n, more, a, err, m.Len())
			}
		}
		if a, err := m.Grow(left); a != n || err != api.OK || m.Len() != api.MaxCells {
			t.Errorf("%d cells: Grow(%d): %d, %v; Len %d", n, left, a, err, m.Len())
		}
		if v, err := m.Load(api.MaxCells - 1); v != 0 || err != api.OK {
			t.Errorf("%d cells: the last one: %d, %v", n, v, err)
		}
		if a, err := m.Grow(1); a != 0 || err != api.ErrMem {
			t.Errorf("full: Grow(1): %d, %v", a, err)
		}
		if a, err := m.Grow(0); a != api.MaxCells || err != api.OK {
			t.Errorf("full: Grow(0): %d, %v", a, err)
		}
	}
}

func TestRefusedGrowChangesNothing(t *testing.T) {
	m := filled(t, 3)
	was := cellsOf(t, m)
	for _, n := range []int{-1, math.MinInt, api.MaxCells - 2, math.MaxInt} {
		m.Grow(n)
	}
	if got := cellsOf(t, m); !slices.Equal(got, was) || m.Count() != 3 {
		t.Errorf("changed: %v, %d", got, m.Count())
	}
}

// P1.2, R5: a Mem that is nil, whatever else is handed in.

func TestNil(t *testing.T) {
	var m *mem.Mem
	for _, a := range append([]int{0, 1, 2}, nowhere(0)...) {
		if v, err := m.Load(a); v != 0 || err != api.ErrArg {
			t.Errorf("Load(%d): %d, %v", a, v, err)
		}
		if v, err := m.Peek(a); v != 0 || err != api.ErrArg {
			t.Errorf("Peek(%d): %d, %v", a, v, err)
		}
		if err := m.Store(a, 1); err != api.ErrArg {
			t.Errorf("Store(%d): %v", a, err)
		}
		if v, ok := m.CAS(a, 0, 0); v != 0 || ok {
			t.Errorf("CAS(%d): %d, %v", a, v, ok)
		}
		if v, err := m.Add(a, 1); v != 0 || err != api.ErrArg {
			t.Errorf("Add(%d): %d, %v", a, v, err)
		}
		if f, err := m.Grow(a); f != 0 || err != api.ErrArg {
			t.Errorf("Grow(%d): %d, %v", a, f, err)
		}
	}
	if m.Len() != 0 || m.Count() != 0 {
		t.Errorf("Len %d, Count %d", m.Len(), m.Count())
	}
}

// P1.3.

func TestCellsStandApart(t *testing.T) {
	calls := []struct {
		name string
		call func(m *mem.Mem, a int)
		then func(v uint64) uint64
	}{
		{"Store", func(m *mem.Mem, a int) { m.Store(a, top) }, func(uint64) uint64 { return top }},
		{"CAS", func(m *mem.Mem, a int) { m.CAS(a, uint64(10*a+10), 3) }, func(uint64) uint64 { return 3 }},
		{"CAS that doesn't turn", func(m *mem.Mem, a int) { m.CAS(a, 1, 3) }, func(v uint64) uint64 { return v }},
		{"Add", func(m *mem.Mem, a int) { m.Add(a, top-1) }, func(v uint64) uint64 { return v - 2 }},
		{"Load", func(m *mem.Mem, a int) { m.Load(a) }, func(v uint64) uint64 { return v }},
		{"Peek", func(m *mem.Mem, a int) { m.Peek(a) }, func(v uint64) uint64 { return v }},
	}
	for _, c := range calls {
		for a := range 6 {
			m := filled(t, 6)
			want := cellsOf(t, m)
			want[a] = c.then(want[a])
			c.call(m, a)
			if got := cellsOf(t, m); !slices.Equal(got, want) {
				t.Errorf("%s of cell %d: %v, want %v", c.name, a, got, want)
			}
		}
	}
}

func TestMemsStandApart(t *testing.T) {
	a, b := filled(t, 3), filled(t, 3)
	a.Store(0, 99)
	a.Grow(2)
	a.Store(3, 98)
	b.Grow(2)
	if got := cellsOf(t, b); !slices.Equal(got, []uint64{10, 20, 30, 0, 0}) || b.Count() != 3 {
		t.Errorf("the other one: %v, %d", got, b.Count())
	}
}

func TestOneOfTwoTurns(t *testing.T) {
	for _, has := range []uint64{0, 5, top} {
		for _, first := range []uint64{1, 2, 1 << 40} {
			for _, second := range []uint64{1, 2, 1 << 40} {
				m := mem.New(2)
				m.Store(1, has)
				v, one := m.CAS(1, has, first)
				w, two := m.CAS(1, has, second)
				if v != has || !one || w != first || two {
					t.Errorf("from %d to %d, and to %d: %d, %v; %d, %v", has, first, second, v, one, w, two)
				}
				if got, _ := m.Load(1); got != first {
					t.Errorf("from %d to %d, and to %d: then %d", has, first, second, got)
				}
			}
		}
	}
}

// TestLikeAList holds many calls, of cells that there are and aren't, against a list of numbers.
func TestLikeAList(t *testing.T) {
	m, want, count := mem.New(3), make([]uint64, 3), 0
	seed := uint64(1)
	next := func(n int) int { // a rule of its own: the same each time
		seed = seed*6364136223846793005 + 1442695040888963407
		return int(seed>>33) % n
	}
	for i := range 5000 {
		a, x, y := next(len(want)+4)-2, uint64(next(4)), uint64(next(4))
		there := a >= 0 && a < len(want)
		had := uint64(0)
		if there {
			had = want[a]
		}
		got, ok := uint64(0), false
		kind := next(6)
		switch kind {
		case 0:
			v, err := m.Load(a)
			got, ok = v, err == api.OK
		case 1:
			ok = m.Store(a, x) == api.OK
			got = had
			if there {
				want[a] = x
			}
		case 2:
			got, ok = m.CAS(a, x, y)
			if there && had == x {
				want[a] = y
			}
		case 3:
			v, err := m.Add(a, x-2)
			got, ok = v, err == api.OK
			if there {
				want[a] += x - 2
			}
		case 4:
			v, err := m.Peek(a)
			got, ok = v, err == api.OK
		case 5:
			f, err := m.Grow(a)
			if a < 0 {
				if f != 0 || err != api.ErrMem {
					t.Fatalf("call %d: Grow(%d): %d, %v", i, a, f, err)
				}
			} else if f != len(want) || err != api.OK {
				t.Fatalf("call %d: Grow(%d): %d, %v", i, a, f, err)
			} else if len(want)+a > 60 { // begun anew, so that cells are asked again and again
				m, want, count = mem.New(3), make([]uint64, 3), 0
			} else {
				want = append(want, make([]uint64, a)...)
			}
			continue
		}
		if there && kind != 4 {
			count++
		}
		if got != had || ok != (there && (kind != 2 || had == x)) {
			t.Fatalf("call %d, kind %d, cell %d: %d, %v; it had %d", i, kind, a, got, ok, had)
		}
		if m.Count() != count || m.Len() != len(want) || !slices.Equal(cellsOf(t, m), want) {
			t.Fatalf("call %d, kind %d, cell %d: %d, %d, %v; want %d, %v", i, kind, a, m.Count(), m.Len(), cellsOf(t, m), count, want)
		}
	}
}

// P1: no call panics, at all arguments.

func TestNoCallPanics(t *testing.T) {
	words := []uint64{0, 1, 1 << 63, top}
	mems := []*mem.Mem{nil, mem.New(0), mem.New(1), mem.New(4), mem.New(api.MaxCells)}
	for _, m := range mems {
		for _, a := range append([]int{0, 1, 3, api.MaxCells - 1}, nowhere(4)...) {
			m.Load(a)
			m.Peek(a)
			for _, x := range words {
				m.Store(a, x)
				m.Add(a, x)
				for _, y := range words {
					m.CAS(a, x, y)
				}
			}
			m.Grow(a)
		}
		if m.Len() > api.MaxCells {
			t.Errorf("too many cells: %d", m.Len())
		}
		m.Count()
	}
}
