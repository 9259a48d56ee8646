package globals_test

import (
	"math"
	"slices"
	"testing"

	"kraal/api"
	"kraal/globals"
)

// TestR3AllIsNew: who writes into what All answers, or behind its end, changes neither a slot nor another answer.
func TestR3AllIsNew(t *testing.T) {
	full := make([]uint64, most)
	for i := range full {
		full[i] = uint64(i) + 1
	}
	for _, words := range [][]uint64{{}, {5}, {1, 2}, {0, 0, 0}, {7, math.MaxUint64, 0, 3}, full} {
		p := filled(t, words...)
		first, second := p.slots.All(), p.slots.All()
		for i := range first {
			first[i] ^= 99
		}
		_ = append(first, 77)
		_ = append(first[:0], 78)
		behind := first[:cap(first)]
		for i := range behind {
			behind[i] = 79
		}
		if !slices.Equal(second, words) {
			t.Errorf("another answer was changed: got %v, want %v", second, words)
		}
		p.wantWords(words...)
		for i, v := range words {
			p.wantSet(uint64(i), v, v, api.OK)
		}
		p.wantWords(words...)
	}
}

// TestR3AllStays: what was answered stays, whatever is put later.
func TestR3AllStays(t *testing.T) {
	p := filled(t, 4, 0, 9)
	got := p.slots.All()
	p.set(0, 5)
	p.set(1, 6)
	p.set(2, 0)
	if want := []uint64{4, 0, 9}; !slices.Equal(got, want) {
		t.Errorf("an answer changed later: got %v, want %v", got, want)
	}
	p.wantWords(5, 6, 0)
}

// TestR4NilIsEmpty: the list of none has no items, however often it is asked, and may be nil.
func TestR4NilIsEmpty(t *testing.T) {
	p := made(t, 0)
	for range 3 {
		if got := p.slots.All(); len(got) != 0 {
			t.Errorf("All of none: got %v", got)
		}
		p.set(0, 1)
	}
}

// TestR5Apart: two lots of slots have nothing to do with each other.
func TestR5Apart(t *testing.T) {
	p, q := made(t, 2), made(t, 2)
	p.set(0, 5)
	q.wantWords(0, 0)
	q.set(0, 6)
	q.set(1, 7)
	p.wantWords(5, 0)
	if s, e := globals.New(most + 1); s != nil || e != api.ErrArg {
		t.Errorf("New(%d): got %v, %v", most+1, s, e)
	}
	made(t, 3).wantWords(0, 0, 0)
	p.wantWords(5, 0)
	q.wantWords(6, 7)
}

// TestR5AskingChangesNothing: Len, Get and All, however often, of whatever, change nothing.
func TestR5AskingChangesNothing(t *testing.T) {
	for _, words := range [][]uint64{{}, {0}, {3, 0, math.MaxUint64}} {
		p := filled(t, words...)
		for range 5 {
			p.wantPlain()
		}
		p.wantWords(words...)
	}
}
