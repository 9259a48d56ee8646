package globals_test

import (
	"math"
	"slices"
	"testing"

	"kraal/api"
	"kraal/globals"
)

// most is how many slots there can be, as the chapter tells it.
const most = 64

// wrong are numbers of slots that there can't be.
var wrong = []int{
	-1, -2, -63, -64, -65, -1 << 8, -1 << 31, -1<<31 - 1, -1 << 32, -1<<32 + 1, math.MinInt, math.MinInt + 1, math.MinInt + 64,
	most + 1, most + 2, 127, 128, 255, 256, 257, 1 << 16, math.MaxInt32, 1 << 31, 1 << 32, 1<<32 + 1, 1<<32 + 64, math.MaxInt - 1, math.MaxInt,
}

// huge are numbers that are no slot, however many there are: those that, cut short or taken for signed ones, would be small ones, or below 0.
var huge = []uint64{
	most, most + 1, 127, 128, 255, 256, 257, 1 << 16, 1<<16 + 1, 1<<31 - 1, 1 << 31, 1<<31 + 1, 1<<32 - 1, 1 << 32, 1<<32 + 1, 1<<32 + 2, 1<<32 + 63,
	1<<63 - 1, 1 << 63, 1<<63 + 1, 1<<63 + 2, 1<<63 + 63, 1<<64 - 64, 1<<64 - 2, math.MaxUint64,
}

// values are what slots are put: the ends, and such that would change if they were cut short or taken for signed ones.
var values = []uint64{0, 1, 2, 1<<31 - 1, 1 << 31, 1<<32 - 1, 1 << 32, 1<<32 + 1, 1<<63 - 1, 1 << 63, math.MaxUint64 - 1, math.MaxUint64}

// pair are slots, and a plain row of words that is told the same.
type pair struct {
	*testing.T
	slots *globals.Slots
	plain []uint64
}

// made is a pair of n slots, all 0.
func made(t *testing.T, n int) *pair {
	t.Helper()
	s, e := globals.New(n)
	if e != api.OK || s == nil {
		t.Fatalf("New(%d): got %v, %v", n, s, e)
	}
	return &pair{T: t, slots: s, plain: make([]uint64, n)}
}

// filled is a pair of slots that were put these words.
func filled(t *testing.T, words ...uint64) *pair {
	t.Helper()
	p := made(t, len(words))
	for i, v := range words {
		p.set(uint64(i), v)
	}
	return p
}

// set tells both to put v into slot i, and holds what they answer against each other.
func (p *pair) set(i, v uint64) {
	p.Helper()
	want, wantE := p.old(i)
	if wantE == api.OK {
		p.plain[i] = v
	}
	p.wantSet(i, v, want, wantE)
}

// old is what Get and Set of a slot answer, by the chapter's words.
func (p *pair) old(i uint64) (uint64, api.Errno) {
	for at, v := range p.plain {
		if uint64(at) == i {
			return v, api.OK
		}
	}
	return 0, api.ErrRange
}

// wantSet: the call, told of the slots alone, answers this.
func (p *pair) wantSet(i, v, want uint64, wantE api.Errno) {
	p.Helper()
	if got, e := p.slots.Set(i, v); got != want || e != wantE {
		p.Errorf("Set(%d, %d): got %d, %v, want %d, %v", i, v, got, e, want, wantE)
	}
}

func (p *pair) wantGet(i, want uint64, wantE api.Errno) {
	p.Helper()
	if got, e := p.slots.Get(i); got != want || e != wantE {
		p.Errorf("Get(%d): got %d, %v, want %d, %v", i, got, e, want, wantE)
	}
}

// wantWords: these are in the slots, as both tell it.
func (p *pair) wantWords(want ...uint64) {
	p.Helper()
	if !slices.Equal(p.plain, want) {
		p.Errorf("plain: got %v, want %v", p.plain, want)
	}
	p.wantPlain()
}

// wantPlain: Len, All, and Get of each slot, of the first number that is none and of huge ones, are as the plain row says.
func (p *pair) wantPlain() {
	p.Helper()
	if got, want := p.slots.Len(), len(p.plain); got != want {
		p.Errorf("Len: got %d, want %d", got, want)
	}
	if got := p.slots.All(); !slices.Equal(got, p.plain) {
		p.Errorf("All: got %v, want %v", got, p.plain)
	}
	for i, v := range p.plain {
		p.wantGet(uint64(i), v, api.OK)
	}
	p.wantGet(uint64(len(p.plain)), 0, api.ErrRange)
	for _, i := range huge {
		p.wantGet(i, 0, api.ErrRange)
	}
}

// mixed is a row of numbers that come in no order that is plain to see, always the same.
type mixed uint64

// next is the next number, below that one.
func (m *mixed) next(under int) int {
	*m = *m*6364136223846793005 + 1442695040888963407
	return int(uint64(*m) >> 33 % uint64(under))
}

// word is any word: an end often, else one all of whose bits come.
func (m *mixed) word() uint64 {
	if m.next(3) == 0 {
		return values[m.next(len(values))]
	}
	return uint64(m.next(1<<31))<<33 ^ uint64(m.next(1<<31))<<7 ^ uint64(m.next(1<<31))
}
