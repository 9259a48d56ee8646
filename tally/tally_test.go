package tally_test

import (
	"math"
	"slices"
	"testing"

	"kraal/api"
)

// TestP15_1Example is the chapter's example.
func TestP15_1Example(t *testing.T) {
	y := told(t)
	y.wantAdd(3, 2, api.OK)
	y.wantSwap(3, 5, api.OK)
	y.wantCounts(api.Run{From: 3, N: 1}, api.Run{From: 5, N: 1})
}

// TestP15_1None: of a tally of none nothing can be taken, and nothing is told.
func TestP15_1None(t *testing.T) {
	y := told(t)
	y.wantCounts()
	for _, region := range slices.Concat([]int{1, 2, 3, 63, 64, 65}, huge) {
		y.wantOf(region, 0)
		y.wantAdd(region, -1, api.ErrRange)
		y.wantAdd(region, 0, api.OK)
		y.wantSwap(region, 0, api.ErrRange)
		y.wantSwap(region, 1, api.ErrRange)
		y.wantSwap(region, region, api.ErrRange)
		y.forget(region)
		y.wantCounts()
	}
	y.wantSwap(0, 0, api.OK)
	y.wantCounts()
}

// TestP15_1One: all calls at one region.
func TestP15_1One(t *testing.T) {
	y := told(t)
	y.wantAdd(7, 5, api.OK)
	y.wantCounts(api.Run{From: 7, N: 5})
	y.wantAdd(7, 3, api.OK)
	y.wantCounts(api.Run{From: 7, N: 8})
	y.wantAdd(7, -2, api.OK)
	y.wantCounts(api.Run{From: 7, N: 6})
	y.wantSwap(0, 7, api.OK)
	y.wantCounts(api.Run{From: 7, N: 7})
	y.wantSwap(7, 0, api.OK)
	y.wantCounts(api.Run{From: 7, N: 6})
	y.wantSwap(7, 7, api.OK)
	y.wantCounts(api.Run{From: 7, N: 6})
	y.wantAdd(7, -7, api.ErrRange)
	y.wantCounts(api.Run{From: 7, N: 6})
	y.forget(7)
	y.wantCounts()
	y.wantSwap(0, 7, api.OK)
	y.wantCounts(api.Run{From: 7, N: 1})
}

// TestP15_1Several: each call changes the regions that it names, and no other one.
func TestP15_1Several(t *testing.T) {
	y := told(t, api.Run{From: 9, N: 2}, api.Run{From: 1, N: 4}, api.Run{From: 64, N: 1}, api.Run{From: 5, N: 3})
	y.wantCounts(api.Run{From: 1, N: 4}, api.Run{From: 5, N: 3}, api.Run{From: 9, N: 2}, api.Run{From: 64, N: 1})
	y.wantSwap(64, 9, api.OK)
	y.wantCounts(api.Run{From: 1, N: 4}, api.Run{From: 5, N: 3}, api.Run{From: 9, N: 3})
	y.wantSwap(1, 2, api.OK)
	y.wantCounts(api.Run{From: 1, N: 3}, api.Run{From: 2, N: 1}, api.Run{From: 5, N: 3}, api.Run{From: 9, N: 3})
	y.forget(5)
	y.wantCounts(api.Run{From: 1, N: 3}, api.Run{From: 2, N: 1}, api.Run{From: 9, N: 3})
	y.wantAdd(9, -3, api.OK)
	y.wantAdd(64, 6, api.OK)
	y.wantSwap(64, 0, api.OK)
	y.wantSwap(0, 1, api.OK)
	y.wantCounts(api.Run{From: 1, N: 4}, api.Run{From: 2, N: 1}, api.Run{From: 64, N: 5})
}

// TestP15_1Many: many regions, told in no order; All rises, however often it is asked.
func TestP15_1Many(t *testing.T) {
	const n = 1000
	y := told(t)
	var want []api.Run
	for i := range n {
		region := 1 + (i*377+5)%n // 377 shares no divisor with 1000: all come
		y.wantAdd(region, region%13+1, api.OK)
	}
	for region := 1; region <= n; region++ {
		switch {
		case region%3 == 0:
			y.forget(region)
		case region%7 == 0:
			y.wantAdd(region, -(region%13 + 1), api.OK)
		default:
			want = append(want, api.Run{From: region, N: region%13 + 1})
		}
	}
	for range 20 {
		if got := y.tally.All(); !slices.Equal(got, want) {
			t.Fatalf("All: got %v, want %v", got, want)
		}
	}
	y.wantCounts(want...)
}

// TestP15_1AddBounds: a count that comes to 0 and to the greatest one, and one that would be one less, or one more.
func TestP15_1AddBounds(t *testing.T) {
	full := api.Run{From: 4, N: greatest}
	for _, has := range []int{0, 1, 2, 3, 1000, 1 << 30, greatest - 1, greatest} {
		y := told(t, api.Run{From: 4, N: has})
		was := y.plain.all()
		y.wantAdd(4, -has-1, api.ErrRange)
		y.wantCounts(was...)
		y.wantAdd(4, greatest-has+1, api.ErrRange)
		y.wantCounts(was...)
		y.wantAdd(4, greatest-has, api.OK)
		y.wantCounts(full)
		y.wantAdd(4, 1, api.ErrRange)
		y.wantCounts(full)
		y.wantAdd(4, -greatest, api.OK)
		y.wantCounts()
		y.wantAdd(4, -1, api.ErrRange)
		y.wantCounts()
		y.wantAdd(4, greatest+1, api.ErrRange)
		y.wantCounts()
		y.wantAdd(4, greatest, api.OK)
		y.wantCounts(full)
	}
}

// TestP15_1AddNothing: 0 more is no change, of a region that has a count and of one that has none.
func TestP15_1AddNothing(t *testing.T) {
	y := told(t, api.Run{From: 2, N: 3}, api.Run{From: 5, N: greatest})
	for _, region := range []int{1, 2, 3, 5, 6, math.MaxInt} {
		y.wantAdd(region, 0, api.OK)
		y.wantCounts(api.Run{From: 2, N: 3}, api.Run{From: 5, N: greatest})
	}
	y.wantSwap(1, 2, api.ErrRange) // it has no count still
	y.wantAdd(2, -3, api.OK)
	y.wantAdd(2, 0, api.OK)
	y.wantCounts(api.Run{From: 5, N: greatest})
}

// TestP15_1AddFarTooMuch: numbers with which the sum would wrap round, or come out right if it were cut short.
func TestP15_1AddFarTooMuch(t *testing.T) {
	for _, has := range []int{0, 1, 2, 7, greatest - 1, greatest} {
		y := told(t, api.Run{From: 3, N: has}, api.Run{From: 8, N: 1})
		was := y.plain.all()
		for _, n := range []int{
			math.MinInt, math.MinInt + 1, math.MinInt + 2, math.MinInt + 7, math.MinInt + greatest, math.MinInt + greatest + 1,
			math.MaxInt, math.MaxInt - 1, math.MaxInt - 7, math.MaxInt - greatest, math.MaxInt - greatest + 1,
			-1 << 32, -1<<32 + 1, -1<<32 - 1, 1 << 32, 1<<32 + 1, 1<<32 - 1, -1 << 31, -1<<31 - 1, 1 << 31, 1<<31 + 1,
			-1 << 62, 1 << 62, -1 << 40, 1 << 40,
		} {
			y.wantAdd(3, n, api.ErrRange)
			y.wantCounts(was...)
		}
	}
}

// TestP15_1SwapBounds: by Swap a count comes to 0 and to the greatest one, one by one, and no further.
func TestP15_1SwapBounds(t *testing.T) {
	y := told(t, api.Run{From: 6, N: 3}, api.Run{From: 2, N: greatest - 2})
	y.wantSwap(6, 2, api.OK)
	y.wantCounts(api.Run{From: 2, N: greatest - 1}, api.Run{From: 6, N: 2})
	y.wantSwap(6, 2, api.OK)
	y.wantCounts(api.Run{From: 2, N: greatest}, api.Run{From: 6, N: 1})
	y.wantSwap(6, 2, api.ErrRange)
	y.wantCounts(api.Run{From: 2, N: greatest}, api.Run{From: 6, N: 1})
	y.wantSwap(6, 0, api.OK)
	y.wantCounts(api.Run{From: 2, N: greatest})
	y.wantSwap(6, 0, api.ErrRange)
	y.wantSwap(6, 2, api.ErrRange)
	y.wantSwap(6, 4, api.ErrRange)
	y.wantCounts(api.Run{From: 2, N: greatest})
	y.wantSwap(2, 6, api.OK)
	y.wantCounts(api.Run{From: 2, N: greatest - 1}, api.Run{From: 6, N: 1})
	y.wantSwap(6, 2, api.OK)
	y.wantCounts(api.Run{From: 2, N: greatest})
}

// TestP15_1SwapNowhere: of old 0 nothing is taken; to new 0 nothing is given; of both 0 nothing is done.
func TestP15_1SwapNowhere(t *testing.T) {
	y := told(t, api.Run{From: 3, N: 2})
	y.wantSwap(0, 5, api.OK)
	y.wantCounts(api.Run{From: 3, N: 2}, api.Run{From: 5, N: 1})
	y.wantSwap(0, 3, api.OK)
	y.wantCounts(api.Run{From: 3, N: 3}, api.Run{From: 5, N: 1})
	y.wantSwap(5, 0, api.OK)
	y.wantCounts(api.Run{From: 3, N: 3})
	y.wantSwap(3, 0, api.OK)
	y.wantCounts(api.Run{From: 3, N: 2})
	y.wantSwap(5, 0, api.ErrRange)
	y.wantCounts(api.Run{From: 3, N: 2})
	y.wantSwap(0, 0, api.OK)
	y.wantCounts(api.Run{From: 3, N: 2})
	y.wantAdd(9, greatest, api.OK)
	y.wantSwap(0, 9, api.ErrRange)
	y.wantCounts(api.Run{From: 3, N: 2}, api.Run{From: 9, N: greatest})
}

// TestP15_1SwapItself: what has a count has it still; what has none is ErrRange.
func TestP15_1SwapItself(t *testing.T) {
	for _, has := range []int{1, 2, greatest - 1, greatest} {
		y := told(t, api.Run{From: 3, N: has}, api.Run{From: 4, N: 1})
		for range 3 {
			y.wantSwap(3, 3, api.OK)
			y.wantCounts(api.Run{From: 3, N: has}, api.Run{From: 4, N: 1})
		}
	}
	y := told(t, api.Run{From: 4, N: 1})
	for _, region := range append([]int{1, 3, 5}, huge...) {
		y.wantSwap(region, region, api.ErrRange)
		y.wantCounts(api.Run{From: 4, N: 1})
	}
	y.wantAdd(4, -1, api.OK)
	y.wantSwap(4, 4, api.ErrRange)
	y.wantCounts()
}

// TestP15_1SwapFull: to a region that has the greatest count nothing can be given, and nothing is taken for it.
func TestP15_1SwapFull(t *testing.T) {
	for _, has := range []int{1, 2, 1000, greatest - 1, greatest} {
		y := told(t, api.Run{From: 3, N: greatest}, api.Run{From: 8, N: has}, api.Run{From: 1, N: 1})
		was := []api.Run{{From: 1, N: 1}, {From: 3, N: greatest}, {From: 8, N: has}}
		y.wantSwap(8, 3, api.ErrRange)
		y.wantCounts(was...)
		y.wantSwap(0, 3, api.ErrRange)
		y.wantCounts(was...)
		y.wantSwap(5, 3, api.ErrRange) // it has no count either
		y.wantCounts(was...)
		y.wantSwap(1, 3, api.ErrRange)
		y.wantCounts(was...)
		y.wantSwap(3, 1, api.OK) // now there is room
		y.wantSwap(8, 3, api.OK)
		y.wantSwap(1, 3, api.ErrRange)
		y.wantOf(1, 2)
		y.wantOf(3, greatest)
		y.wantOf(8, has-1)
		y.wantPlain()
	}
}

// TestP15_1WrongRegions: numbers that are no region, in each call.
func TestP15_1WrongRegions(t *testing.T) {
	for _, y := range []*pair{told(t), told(t, api.Run{From: 1, N: 1}, api.Run{From: 7, N: greatest}, api.Run{From: math.MaxInt, N: 2})} {
		was := y.plain.all()
		for _, region := range wrong {
			for _, n := range []int{0, 1, -1, 2, greatest, -greatest, greatest + 1, math.MinInt, math.MaxInt} {
				y.wantAdd(region, n, api.ErrArg)
			}
			y.wantOf(region, 0)
			y.forget(region)
			y.wantCounts(was...)
			if region == 0 {
				continue
			}
			for _, other := range slices.Concat([]int{0, 1, 2, 7, math.MaxInt}, wrong) {
				y.wantSwap(region, other, api.ErrArg)
				y.wantSwap(other, region, api.ErrArg)
			}
			y.wantCounts(was...)
		}
	}
}

// TestP15_1HugeRegions: regions' numbers may be any from 1 on; those that are alike when cut short are told apart.
func TestP15_1HugeRegions(t *testing.T) {
	y := told(t, api.Run{From: 1, N: 1}, api.Run{From: 7, N: 2})
	want := []api.Run{{From: 1, N: 1}, {From: 7, N: 2}}
	for i, region := range huge {
		y.wantOf(region, 0)
		y.wantAdd(region, i+3, api.OK)
		want = append(want, api.Run{From: region, N: i + 3})
		y.wantCounts(want...)
	}
	for i, region := range huge {
		y.wantSwap(region, huge[(i+1)%len(huge)], api.OK)
		y.wantPlain()
	}
	y.wantCounts(want...) // each gave one, and got one
	y.wantSwap(math.MaxInt, 1, api.OK)
	y.wantOf(1, 2)
	for _, region := range huge {
		y.forget(region)
	}
	y.wantCounts(api.Run{From: 1, N: 2}, api.Run{From: 7, N: 2})
}

// TestP15_1FirstError: where more than one thing is wrong, what the chapter tells first is answered.
func TestP15_1FirstError(t *testing.T) {
	y := told(t, api.Run{From: 2, N: 1}, api.Run{From: 3, N: greatest})
	was := y.plain.all()
	y.wantAdd(0, -1, api.ErrArg)              // no region, that has no count
	y.wantAdd(-1, math.MinInt, api.ErrArg)    // no region, and far too little
	y.wantAdd(-3, math.MaxInt, api.ErrArg)    // no region, and far too much
	y.wantAdd(math.MinInt, -1, api.ErrArg)    // no region, that has no count
	y.wantSwap(-1, 3, api.ErrArg)             // no region, and no room
	y.wantSwap(9, -1, api.ErrArg)             // it has no count, but the other one is no region
	y.wantSwap(2, -1, api.ErrArg)             // it has a count, but the other one is no region
	y.wantSwap(0, -1, api.ErrArg)             // nothing is taken, but the other one is no region
	y.wantSwap(-1, 0, api.ErrArg)             // no region, and to nowhere
	y.wantSwap(-1, -1, api.ErrArg)            // both are one, and no region
	y.wantSwap(math.MinInt, 9, api.ErrArg)    // no region, that has no count
	y.wantSwap(math.MinInt, -1, api.ErrArg)   // neither is one
	y.wantSwap(9, 3, api.ErrRange)            // it has no count, and the other one no room
	y.wantSwap(9, 9, api.ErrRange)            // both are one, that has no count
	y.wantSwap(9, math.MaxInt, api.ErrRange)  // it has no count
	y.wantSwap(math.MaxInt, 0, api.ErrRange)  // it has no count, to nowhere
	y.wantSwap(0, 3, api.ErrRange)            // nothing is taken, but there is no room
	y.wantAdd(math.MaxInt, -1, api.ErrRange)  // it has no count
	y.wantAdd(3, math.MaxInt, api.ErrRange)   // no room
	y.wantAdd(2, math.MinInt+1, api.ErrRange) // far too little
	y.wantCounts(was...)
}

// TestP15_1Forget: what is forgotten has the count 0, and is as one that never had one; of others nothing changes.
func TestP15_1Forget(t *testing.T) {
	y := told(t, api.Run{From: 3, N: 7}, api.Run{From: 4, N: greatest}, api.Run{From: 6, N: 1})
	was := y.plain.all()
	for _, region := range slices.Concat([]int{1, 2, 5, 7, 64, 77}, huge, wrong) {
		y.forget(region)
		y.wantCounts(was...)
	}
	y.forget(4)
	y.wantCounts(api.Run{From: 3, N: 7}, api.Run{From: 6, N: 1})
	y.wantAdd(4, -1, api.ErrRange)
	y.wantSwap(4, 3, api.ErrRange)
	y.wantSwap(4, 4, api.ErrRange)
	y.wantSwap(3, 4, api.OK)
	y.wantCounts(api.Run{From: 3, N: 6}, api.Run{From: 4, N: 1}, api.Run{From: 6, N: 1})
	y.forget(4)
	y.forget(4)
	y.wantCounts(api.Run{From: 3, N: 6}, api.Run{From: 6, N: 1})
	y.wantAdd(4, greatest, api.OK)
	y.forget(3)
	y.forget(6)
	y.forget(4)
	y.wantCounts()
}

// TestP15_1AllNoNone: one whose count came to 0, by whichever call, isn't told any more, and is again when it has one.
func TestP15_1AllNoNone(t *testing.T) {
	for _, has := range []int{1, 2, 9, greatest} {
		for _, end := range []func(y *pair){
			func(y *pair) { y.wantAdd(5, -has, api.OK) },
			func(y *pair) { y.wantAdd(5, 1-has, api.OK); y.wantSwap(5, 0, api.OK) },
			func(y *pair) { y.wantAdd(5, 1-has, api.OK); y.wantSwap(5, 2, api.OK); y.wantAdd(2, -1, api.OK) },
			func(y *pair) { y.forget(5) },
		} {
			y := told(t, api.Run{From: 9, N: 3}, api.Run{From: 5, N: has}, api.Run{From: 2, N: 1})
			y.wantCounts(api.Run{From: 2, N: 1}, api.Run{From: 5, N: has}, api.Run{From: 9, N: 3})
			end(y)
			y.wantCounts(api.Run{From: 2, N: 1}, api.Run{From: 9, N: 3})
			y.wantSwap(5, 9, api.ErrRange)
			y.wantSwap(9, 5, api.OK)
			y.wantCounts(api.Run{From: 2, N: 1}, api.Run{From: 5, N: 1}, api.Run{From: 9, N: 2})
		}
	}
}
