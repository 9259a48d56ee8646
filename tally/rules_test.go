package tally_test

import (
	"math"
	"slices"
	"testing"

	"kraal/api"
	"kraal/tally"
)

// some is a pair of some counts, at the ends too.
func some(t *testing.T) *pair {
	t.Helper()
	return told(t, api.Run{From: 8, N: 2}, api.Run{From: 3, N: greatest}, api.Run{From: math.MaxInt, N: 1}, api.Run{From: 5, N: 4})
}

// TestR3AllIsNew: who writes into what All answers, or behind its end, changes neither a count nor another answer.
func TestR3AllIsNew(t *testing.T) {
	for _, y := range []*pair{told(t), told(t, api.Run{From: 1, N: 1}), some(t)} {
		was := y.plain.all()
		first, second := y.tally.All(), y.tally.All()
		for i := range first {
			first[i] = api.Run{From: -7, N: 99}
		}
		_ = append(first, api.Run{From: 1, N: 77})
		_ = append(first[:0], api.Run{From: 2, N: 77})
		if !slices.Equal(second, was) {
			t.Errorf("another answer was changed: got %v, want %v", second, was)
		}
		y.wantCounts(was...)
		y.wantPlain(1, 2, 3, 5, 8)
	}
}

// TestR3AllStays: what was answered stays, whatever is told later.
func TestR3AllStays(t *testing.T) {
	y := some(t)
	want := []api.Run{{From: 3, N: greatest}, {From: 5, N: 4}, {From: 8, N: 2}, {From: math.MaxInt, N: 1}}
	got := y.tally.All()
	y.wantAdd(5, 3, api.OK)
	y.wantSwap(8, 1, api.OK)
	y.wantSwap(math.MaxInt, 0, api.OK)
	y.forget(3)
	y.wantAdd(2, 9, api.OK)
	if !slices.Equal(got, want) {
		t.Errorf("an answer changed later: got %v, want %v", got, want)
	}
	y.wantCounts(api.Run{From: 1, N: 1}, api.Run{From: 2, N: 9}, api.Run{From: 5, N: 7}, api.Run{From: 8, N: 1})
}

// TestR4NilIsEmpty: a list of none has no items, whatever was told before, and may be nil.
func TestR4NilIsEmpty(t *testing.T) {
	y := told(t)
	if got := y.tally.All(); len(got) != 0 {
		t.Errorf("All of none: got %v", got)
	}
	y.wantAdd(3, 0, api.OK)
	y.wantAdd(3, 2, api.OK)
	y.wantAdd(3, -2, api.OK)
	y.wantSwap(0, 4, api.OK)
	y.wantSwap(4, 0, api.OK)
	y.forget(4)
	if got := y.tally.All(); len(got) != 0 {
		t.Errorf("All of none any more: got %v", got)
	}
}

// TestR5Apart: two tallies have nothing to do with each other.
func TestR5Apart(t *testing.T) {
	y, z := some(t), told(t)
	z.wantCounts()
	z.wantAdd(3, 1, api.OK)
	z.wantSwap(8, 3, api.ErrRange)
	y.wantSwap(8, 3, api.ErrRange)
	y.forget(3)
	z.wantCounts(api.Run{From: 3, N: 1})
	z.forget(5)
	z.wantSwap(3, 5, api.OK)
	y.wantCounts(api.Run{From: 5, N: 4}, api.Run{From: 8, N: 2}, api.Run{From: math.MaxInt, N: 1})
	z.wantCounts(api.Run{From: 5, N: 1})
}

// TestR5OrderOfTelling: what is told in another order, or in other steps, comes to the same.
func TestR5OrderOfTelling(t *testing.T) {
	want := []api.Run{{From: 1, N: 2}, {From: 4, N: 1}, {From: 6, N: 3}, {From: 9, N: 5}}
	told(t, want...).wantCounts(want...)
	told(t, want[3], want[2], want[1], want[0]).wantCounts(want...)
	told(t, want[1], want[3], want[0], want[2]).wantCounts(want...)
	y := told(t)
	for _, region := range []int{9, 1, 6, 9, 4, 9, 6, 9, 1, 6, 9} {
		y.wantSwap(0, region, api.OK)
	}
	y.wantCounts(want...)
}

// TestR5AskingChangesNothing: Of and All, however often, of whatever, change nothing.
func TestR5AskingChangesNothing(t *testing.T) {
	x := tally.New()
	for range 5 {
		for _, region := range slices.Concat([]int{1, 2, 3}, huge, wrong) {
			_ = x.Of(region)
			_ = x.All()
		}
	}
	if len(x.All()) != 0 || x.Swap(1, 1) != api.ErrRange || x.Swap(1, 2) != api.ErrRange || x.Add(2, -1) != api.ErrRange {
		t.Errorf("asking changed counts: %v", x.All())
	}
	y := some(t)
	was := y.plain.all()
	for range 5 {
		y.wantPlain(huge...)
	}
	y.wantCounts(was...)
}
