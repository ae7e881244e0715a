// Package mem is layer 1: see shared/doc/01-mem.md.
package mem

import "impost/api"

// Mem is cells, and how often they were asked.
type Mem struct {
	cells []uint64
	asked int
}

// New is one of so many cells, all 0.
func New(n int) *Mem {
	m := &Mem{}
	if _, err := m.Grow(n); err != api.OK {
		return nil
	}
	return m
}

// Load, Store, CAS and Add ask one cell, once each; Peek asks none.
func (m *Mem) Load(a int) (uint64, api.Errno) {
	if !m.ask(a) {
		return 0, api.ErrArg
	}
	return m.cells[a], api.OK
}

func (m *Mem) Peek(a int) (uint64, api.Errno) {
	if !m.has(a) {
		return 0, api.ErrArg
	}
	return m.cells[a], api.OK
}

func (m *Mem) Store(a int, v uint64) api.Errno {
	if !m.ask(a) {
		return api.ErrArg
	}
	m.cells[a] = v
	return api.OK
}

func (m *Mem) CAS(a int, old, next uint64) (uint64, bool) {
	if !m.ask(a) {
		return 0, false
	}
	was := m.cells[a]
	if was != old {
		return was, false
	}
	m.cells[a] = next
	return was, true
}

func (m *Mem) Add(a int, n uint64) (uint64, api.Errno) {
	if !m.ask(a) {
		return 0, api.ErrArg
	}
	was := m.cells[a]
	m.cells[a] = was + n
	return was, api.OK
}

// Grow lets there be more cells, and tells the first one's number; Len is how many there are, Count how often cells were asked.
func (m *Mem) Grow(n int) (int, api.Errno) {
	if m == nil {
		return 0, api.ErrArg
	}
	first := len(m.cells)
	// What is left is held against n, not the sum against the limit: a sum may wrap round.
	if n < 0 || n > api.MaxCells-first {
		return 0, api.ErrMem
	}
	m.add(make([]uint64, n)...)
	return first, api.OK
}

func (m *Mem) Len() int {
	if m == nil {
		return 0
	}
	return len(m.cells)
}

func (m *Mem) Count() int {
	if m == nil {
		return 0
	}
	return m.asked
}

// add lets cells be there, behind those that are.
func (m *Mem) add(cells ...uint64) {
	m.cells = append(m.cells, cells...)
}

// has tells whether there is a cell a; a Mem that is nil has none.
func (m *Mem) has(a int) bool {
	return a >= 0 && a < m.Len()
}

// ask tells whether there is a cell a, and counts just if so.
func (m *Mem) ask(a int) bool {
	if !m.has(a) {
		return false
	}
	m.asked++
	return true
}
