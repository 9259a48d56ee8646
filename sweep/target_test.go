package sweep_test

import (
	"math"
	"testing"

	"kraal/api"
)

// TestP18_1Target: ordinary words: an object's place, and places at which none begins.
func TestP18_1Target(t *testing.T) {
	l := []api.Object{object(17, 2, counted(5), counted(6)), object(1, 3), object(5, 1, counted(17)), object(9, 2)}
	for v, want := range map[uint64]int{17: 2, 1: 3, 5: 1, 9: 2, 0: 0, 2: 0, 4: 0, 6: 0, 8: 0, 10: 0, 16: 0, 18: 0, 19: 0} {
		wantTarget(t, l, v, want)
	}
	for _, v := range nowhere {
		wantTarget(t, l, v, 0)
	}
}

// TestP18_1TargetOfNone: of no objects no word points anywhere.
func TestP18_1TargetOfNone(t *testing.T) {
	for _, v := range append([]uint64{1, 2, 5}, nowhere...) {
		wantTarget(t, nil, v, 0)
		wantTarget(t, []api.Object{}, v, 0)
		wantTarget(t, []api.Object{{}}, v, 0)
	}
}

// TestP18_1TargetOfNoPlace: an object at 0, or below, isn't pointed to: the word 0 points to none, and those of 2^63 and above are no object's place, taken for signed ones either.
func TestP18_1TargetOfNoPlace(t *testing.T) {
	for _, at := range []int{0, -1, -2, -1 << 31, -1 << 32, math.MinInt, math.MinInt + 1} {
		for _, region := range []int{-1, 0, 1, 2, math.MaxInt} {
			l := []api.Object{object(at, region, counted(5)), object(5, 4, counted(uint64(at)))}
			for _, v := range append([]uint64{uint64(at), uint64(-at), 1, 2}, nowhere...) {
				wantTarget(t, l, v, 0)
			}
			wantTarget(t, l, 5, 4)
		}
	}
}

// TestP18_1TargetOfNoRegion: one whose Region is below 1 has none.
func TestP18_1TargetOfNoRegion(t *testing.T) {
	for _, region := range []int{0, -1, -2, -1 << 31, -1<<32 + 1, math.MinInt, math.MinInt + 1} {
		l := []api.Object{object(4, region), object(5, 1), object(6, region)}
		wantTarget(t, l, 4, 0)
		wantTarget(t, l, 5, 1)
		wantTarget(t, l, 6, 0)
	}
}

// TestP18_1TargetFirst: of several objects at one place the first one counts, of whatever region it is.
func TestP18_1TargetFirst(t *testing.T) {
	for _, first := range []int{1, 2, 9, math.MaxInt, 0, -1, math.MinInt} {
		for _, second := range []int{3, 1, 0, -2} {
			l := []api.Object{object(4, 7), object(5, first), object(5, second), object(6, 8), object(5, 4)}
			wantTarget(t, l, 5, max(first, 0))
			wantTarget(t, l, 4, 7)
			wantTarget(t, l, 6, 8)
			wantTarget(t, l[2:], 5, max(second, 0))
		}
	}
	// Those at 0 and below stand in nobody's way.
	l := []api.Object{object(0, 1), object(-5, 2), object(0, 3), object(5, 4)}
	wantTarget(t, l, 5, 4)
	wantTarget(t, l, 0, 0)
}

// TestP18_1TargetEnds: the greatest place, the greatest region.
func TestP18_1TargetEnds(t *testing.T) {
	l := []api.Object{object(math.MaxInt, math.MaxInt), object(1, math.MaxInt-1), object(1<<32+1, 5)}
	wantTarget(t, l, math.MaxInt, math.MaxInt)
	wantTarget(t, l, math.MaxInt-1, 0)
	wantTarget(t, l, math.MaxUint64, 0)
	wantTarget(t, l, 1<<63, 0)
	wantTarget(t, l, 1, math.MaxInt-1)
	wantTarget(t, l, 1<<32+1, 5)
	wantTarget(t, l, 1<<32, 0)
}
