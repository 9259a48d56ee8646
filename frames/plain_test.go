package frames_test

import (
	"math"
	"slices"
	"testing"

	"kraal/api"
	"kraal/frames"
)

// wide is how many slots a frame can have, and deep how many frames there can be, as the chapter tells it.
const (
	wide = 16
	deep = 64
)

// huge are numbers that neither are a slot's nor how many slots a frame can have: those that, cut short or taken for signed ones, would be small ones, or below 0.
var huge = []uint64{
	wide + 1, wide + 2, 31, 32, 33, 63, 64, 65, 127, 128, 255, 256, 257, 1 << 16, 1<<16 + 1, 1<<31 - 1, 1 << 31, 1<<31 + 1, 1<<32 - 1, 1 << 32, 1<<32 + 1, 1<<32 + 2, 1<<32 + 15,
	1<<63 - 1, 1 << 63, 1<<63 + 1, 1<<63 + 2, 1<<63 + 15, 1<<64 - 16, 1<<64 - 2, math.MaxUint64,
}

// values are what slots are put: the ends, and such that would change if they were cut short or taken for signed ones.
var values = []uint64{0, 1, 2, 1<<31 - 1, 1 << 31, 1<<32 - 1, 1 << 32, 1<<32 + 1, 1<<63 - 1, 1 << 63, math.MaxUint64 - 1, math.MaxUint64}

// pair is a stack, and a plain row of rows of words that is told the same.
type pair struct {
	*testing.T
	stack *frames.Stack
	plain [][]uint64
}

// made is a pair without frames.
func made(t *testing.T) *pair {
	t.Helper()
	s := frames.New()
	if s == nil {
		t.Fatal("New: got nil")
	}
	return &pair{T: t, stack: s}
}

// filled is a pair of frames whose slots were put these words, the lowest frame first.
func filled(t *testing.T, rows ...[]uint64) *pair {
	t.Helper()
	p := made(t)
	for _, words := range rows {
		p.push(uint64(len(words)))
		for i, v := range words {
			p.set(uint64(i), v)
		}
	}
	return p
}

// push tells both of a frame of n slots, and holds what they answer against each other.
func (p *pair) push(n uint64) {
	p.Helper()
	want := p.pushes(n)
	if want == api.OK {
		p.plain = append(p.plain, make([]uint64, n))
	}
	p.wantPush(n, want)
}

// pushes is what Push answers, by the chapter's words.
func (p *pair) pushes(n uint64) api.Errno {
	if n > wide {
		return api.ErrArg
	}
	if len(p.plain) >= deep {
		return api.ErrFull
	}
	return api.OK
}

// pop takes the top frame of both, and holds what they answer against each other.
func (p *pair) pop() {
	p.Helper()
	if len(p.plain) == 0 {
		p.wantPop(api.ErrNone)
		return
	}
	last := len(p.plain) - 1
	want := p.plain[last]
	p.plain = slices.Clone(p.plain[:last])
	p.wantPop(api.OK, want...)
}

// popAll pops whatever there is, and once more.
func (p *pair) popAll() {
	p.Helper()
	for len(p.plain) > 0 {
		p.pop()
		p.wantPlain()
	}
	p.pop()
	p.wantPlain()
}

// set tells both to put v into slot i of the top frame, and holds what they answer against each other.
func (p *pair) set(i, v uint64) {
	p.Helper()
	want, e := p.old(i)
	if e == api.OK {
		p.plain[len(p.plain)-1][i] = v
	}
	p.wantSet(i, v, want, e)
}

// get asks both for slot i of the top frame.
func (p *pair) get(i uint64) {
	p.Helper()
	want, e := p.old(i)
	p.wantGet(i, want, e)
}

// old is what Get and Set of a slot answer, by the chapter's words.
func (p *pair) old(i uint64) (uint64, api.Errno) {
	if len(p.plain) == 0 {
		return 0, api.ErrNone
	}
	for at, v := range p.plain[len(p.plain)-1] {
		if uint64(at) == i {
			return v, api.OK
		}
	}
	return 0, api.ErrRange
}

// wantPush: the call, told of the stack alone, answers this.
func (p *pair) wantPush(n uint64, want api.Errno) {
	p.Helper()
	if e := p.stack.Push(n); e != want {
		p.Errorf("Push(%d): got %v, want %v", n, e, want)
	}
}

func (p *pair) wantPop(wantE api.Errno, want ...uint64) {
	p.Helper()
	if got, e := p.stack.Pop(); !slices.Equal(got, want) || e != wantE {
		p.Errorf("Pop: got %v, %v, want %v, %v", got, e, want, wantE)
	}
}

func (p *pair) wantSet(i, v, want uint64, wantE api.Errno) {
	p.Helper()
	if got, e := p.stack.Set(i, v); got != want || e != wantE {
		p.Errorf("Set(%d, %d): got %d, %v, want %d, %v", i, v, got, e, want, wantE)
	}
}

func (p *pair) wantGet(i, want uint64, wantE api.Errno) {
	p.Helper()
	if got, e := p.stack.Get(i); got != want || e != wantE {
		p.Errorf("Get(%d): got %d, %v, want %d, %v", i, got, e, want, wantE)
	}
}

// wantRows: these are in the frames' slots, the lowest frame first, as both tell it.
func (p *pair) wantRows(want ...[]uint64) {
	p.Helper()
	if !slices.EqualFunc(p.plain, want, slices.Equal) {
		p.Errorf("plain: got %v, want %v", p.plain, want)
	}
	p.wantPlain()
}

// wantPlain: Depth, All, and Get of each slot of the top frame, of the first number that is none and of huge ones, are as the plain rows say.
func (p *pair) wantPlain() {
	p.Helper()
	if got, want := p.stack.Depth(), len(p.plain); got != want {
		p.Errorf("Depth: got %d, want %d", got, want)
	}
	if got, want := p.stack.All(), slices.Concat(p.plain...); !slices.Equal(got, want) {
		p.Errorf("All: got %v, want %v", got, want)
	}
	for i := range uint64(wide + 2) {
		p.get(i)
	}
	for _, i := range huge {
		p.get(i)
	}
}

// mixed is a row of numbers that come in no order that is plain to see, always the same.
type mixed uint64

// next is the next number, below that one.
func (m *mixed) next(under int) int {
	*m = *m*6364136223846793005 + 1442695040888963407
	return int(uint64(*m) >> 33 % uint64(under))
}

// word is any word: an end often, else one all of whose bits come.
func (m *mixed) word() uint64 {
	if m.next(3) == 0 {
		return values[m.next(len(values))]
	}
	return uint64(m.next(1<<31))<<33 ^ uint64(m.next(1<<31))<<7 ^ uint64(m.next(1<<31))
}
