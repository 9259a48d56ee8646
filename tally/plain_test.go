package tally_test

import (
	"math"
	"slices"
	"testing"

	"kraal/api"
	"kraal/tally"
)

// greatest is the greatest count, as the chapter tells it.
const greatest = 2147483647

// wrong are numbers that are no region.
var wrong = []int{0, -1, -2, -3, -7, -greatest, -greatest - 1, -1 << 32, -1<<32 + 1, math.MinInt, math.MinInt + 1, math.MinInt + 7}

// huge are regions whose numbers, cut short, would be small ones, or none.
var huge = []int{greatest, 1 << 31, 1<<31 + 1, 1 << 32, 1<<32 + 1, 1<<32 + 7, 1<<62 + 1, math.MaxInt - 1, math.MaxInt}

// plain is a tally by the chapter's words alone: a row of regions with their counts, those of 0 too, in the order in which they were first told.
type plain []api.Run

func (p plain) of(region int) int {
	for _, r := range p {
		if r.From == region {
			return r.N
		}
	}
	return 0
}

func (p *plain) put(region, count int) {
	for i, r := range *p {
		if r.From == region {
			(*p)[i].N = count
			return
		}
	}
	*p = append(*p, api.Run{From: region, N: count})
}

func (p *plain) add(region, n int) api.Errno {
	if region < 1 {
		return api.ErrArg
	}
	// No count could take so much off, or on: so the sum below can't wrap round.
	if n < -greatest || n > greatest {
		return api.ErrRange
	}
	sum := p.of(region) + n
	if sum < 0 || sum > greatest {
		return api.ErrRange
	}
	p.put(region, sum)
	return api.OK
}

// swap goes one step behind the other, as the chapter tells them, and back to what was if the second one can't be.
func (p *plain) swap(old, young int) api.Errno {
	if old < 0 || young < 0 {
		return api.ErrArg
	}
	was := slices.Clone(*p)
	if old != 0 && p.add(old, -1) != api.OK {
		return api.ErrRange
	}
	if young != 0 && p.add(young, 1) != api.OK {
		*p = was
		return api.ErrRange
	}
	return api.OK
}

func (p *plain) forget(region int) {
	if p.of(region) != 0 {
		p.put(region, 0)
	}
}

// all looks, for each of its own, for the next greater region that has a count.
func (p plain) all() []api.Run {
	var all []api.Run
	for last := 0; ; {
		next := api.Run{}
		for _, r := range p {
			if r.N != 0 && r.From > last && (next.N == 0 || r.From < next.From) {
				next = r
			}
		}
		if next.N == 0 {
			return all
		}
		all = append(all, next)
		last = next.From
	}
}

// pair is a tally, and a plain one that is told the same.
type pair struct {
	*testing.T
	tally *tally.Tally
	plain plain
}

// told is a pair of which regions have these counts.
func told(t *testing.T, counts ...api.Run) *pair {
	t.Helper()
	y := &pair{T: t, tally: tally.New()}
	if y.tally == nil {
		t.Fatal("New: got nil")
	}
	for _, c := range counts {
		y.wantAdd(c.From, c.N, api.OK)
	}
	return y
}

// wantAdd: the call, told of both, answers this.
func (y *pair) wantAdd(region, n int, want api.Errno) {
	y.Helper()
	if e := y.plain.add(region, n); e != want {
		y.Errorf("plain Add(%d, %d): got %v, want %v", region, n, e, want)
	}
	if e := y.tally.Add(region, n); e != want {
		y.Errorf("Add(%d, %d): got %v, want %v", region, n, e, want)
	}
}

func (y *pair) wantSwap(old, young int, want api.Errno) {
	y.Helper()
	if e := y.plain.swap(old, young); e != want {
		y.Errorf("plain Swap(%d, %d): got %v, want %v", old, young, e, want)
	}
	if e := y.tally.Swap(old, young); e != want {
		y.Errorf("Swap(%d, %d): got %v, want %v", old, young, e, want)
	}
}

func (y *pair) forget(region int) {
	y.plain.forget(region)
	y.tally.Forget(region)
}

// wantCounts: just these regions have counts, and these ones, as All and Of tell it, of each region that was told ever and of those that never are one.
func (y *pair) wantCounts(want ...api.Run) {
	y.Helper()
	if got := y.tally.All(); !slices.Equal(got, want) {
		y.Errorf("All: got %v, want %v", got, want)
	}
	for _, r := range want {
		if got := y.tally.Of(r.From); got != r.N {
			y.Errorf("Of(%d): got %d, want %d", r.From, got, r.N)
		}
	}
	y.wantPlain()
}

// wantPlain: All, and Of each region that was told ever, of these, and of those that are none, are as the plain tally says.
func (y *pair) wantPlain(asked ...int) {
	y.Helper()
	if got, want := y.tally.All(), y.plain.all(); !slices.Equal(got, want) {
		y.Errorf("All: got %v, want %v", got, want)
	}
	for _, r := range y.plain {
		y.wantOf(r.From, r.N)
	}
	for _, region := range asked {
		y.wantOf(region, y.plain.of(region))
	}
	for _, region := range wrong {
		y.wantOf(region, 0)
	}
}

func (y *pair) wantOf(region, want int) {
	y.Helper()
	if got := y.tally.Of(region); got != want {
		y.Errorf("Of(%d): got %d, want %d", region, got, want)
	}
}

// call is a call that may change a tally.
type call struct {
	name byte
	a, b int
}

// do tells both the call, and holds what they answer against each other.
func (y *pair) do(c call) {
	y.Helper()
	switch c.name {
	case 'a':
		y.wantAdd(c.a, c.b, new(slices.Clone(y.plain)).add(c.a, c.b))
	case 's':
		y.wantSwap(c.a, c.b, new(slices.Clone(y.plain)).swap(c.a, c.b))
	case 'f':
		y.forget(c.a)
	}
}

// mixed is a row of numbers that come in no order that is plain to see, always the same.
type mixed uint64

// next is the next number, below that one.
func (m *mixed) next(under int) int {
	*m = *m*6364136223846793005 + 1442695040888963407
	return int(uint64(*m) >> 33 % uint64(under))
}
