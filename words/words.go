// Package words is layer 1: see shared/doc/01-words.md.
package words

import "kraal/api"

// Mem is a memory.
type Mem struct{ cells []uint64 }

// New is a memory of words.
func New(n int) (*Mem, api.Errno) {
	if n < 0 || n > api.MaxWords {
		return nil, api.ErrArg
	}
	return &Mem{cells: make([]uint64, n)}, api.OK
}

// Len is how many words there are.
func (m *Mem) Len() int { return len(m.cells) }

// Read is a word.
func (m *Mem) Read(at int) (uint64, api.Errno) {
	if !m.has(at) {
		return 0, api.ErrRange
	}
	return m.cells[at], api.OK
}

// Write writes a word.
func (m *Mem) Write(at int, v uint64) api.Errno {
	if !m.has(at) {
		return api.ErrRange
	}
	m.cells[at] = v
	return api.OK
}

// Fill writes words in a row.
func (m *Mem) Fill(r api.Run, v uint64) api.Errno {
	if !m.holds(r) {
		return api.ErrRange
	}
	for at := range rising(r) {
		m.cells[at] = v
	}
	return api.OK
}

// Move moves words.
func (m *Mem) Move(r api.Run, to int) api.Errno {
	if !m.holds(r) || !m.holds(api.Run{From: to, N: r.N}) {
		return api.ErrRange
	}
	// The order is such that a word that both places share is read before it is written.
	order := rising
	if to > r.From {
		order = falling
	}
	for at := range order(r) {
		m.cells[to+at-r.From] = m.cells[at]
	}
	return api.OK
}

// All are all words.
func (m *Mem) All() []uint64 {
	all := make([]uint64, len(m.cells))
	for at := range rising(api.Run{From: 0, N: len(m.cells)}) {
		all[at] = m.cells[at]
	}
	return all
}

func (m *Mem) has(at int) bool { return at >= 0 && at < len(m.cells) }

// holds takes From off the length instead of adding N to From: that sum may wrap round.
func (m *Mem) holds(r api.Run) bool {
	return r.From >= 0 && r.N >= 0 && r.N <= len(m.cells)-r.From
}

// rising hands on the places of r, the first one first.
func rising(r api.Run) func(yield func(int) bool) {
	return func(yield func(int) bool) {
		for i := range r.N {
			if !yield(r.From + i) {
				return
			}
		}
	}
}

// falling hands on the places of r, the last one first.
func falling(r api.Run) func(yield func(int) bool) {
	return func(yield func(int) bool) {
		for i := range r.N {
			if !yield(r.From + r.N - 1 - i) {
				return
			}
		}
	}
}
