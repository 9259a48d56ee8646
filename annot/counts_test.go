package annot_test

import (
	"math"
	"slices"
	"testing"

	"kraal/api"
)

// TestP14_1CountsWritten is told in plain numbers.
func TestP14_1CountsWritten(t *testing.T) {
	wantCounts(t, api.Counted, 3, 5, true)
	wantCounts(t, api.Counted, 5, 3, true)
	wantCounts(t, api.Counted, 0, 5, true) // a global's, or a frame's
	wantCounts(t, api.Counted, 5, 5, false)
	wantCounts(t, api.Counted, 5, 0, false)
	wantCounts(t, api.Counted, 0, 0, false)
	wantCounts(t, api.Same, 3, 5, false)
	wantCounts(t, api.Up, 3, 5, false)
	wantCounts(t, api.Up, 0, 5, false)
	wantCounts(t, api.Scalar, 3, 5, false)
}

// TestP14_1CountsOfEach: each kind, with each holder and each target, those below 0 and huge ones too.
func TestP14_1CountsOfEach(t *testing.T) {
	asked := slices.Concat([]int{0, 1, 2, 3, 4, 5, 63, 64}, wrong)
	for _, kind := range slices.Concat(allKinds, wrongKinds) {
		for _, holder := range asked {
			for _, target := range asked {
				want := kind == 1
				if target == 0 || target == holder {
					want = false
				}
				wantCounts(t, kind, holder, target, want)
			}
		}
	}
}

// TestP14_1CountsNoKind: of what is no kind, or another one than Counted, none is counted.
func TestP14_1CountsNoKind(t *testing.T) {
	for _, kind := range append([]int{api.Same, api.Up}, wrongKinds...) {
		for _, holder := range []int{0, 1, 2, -1, math.MaxInt} {
			for _, target := range []int{0, 1, 2, -1, math.MaxInt} {
				wantCounts(t, kind, holder, target, false)
			}
		}
	}
}

// TestP14_1CountsBelow0: numbers below 0 are neither 0 nor, if they are others, the holder.
func TestP14_1CountsBelow0(t *testing.T) {
	wantCounts(t, api.Counted, -1, -1, false)
	wantCounts(t, api.Counted, -1, 1, true)
	wantCounts(t, api.Counted, 1, -1, true)
	wantCounts(t, api.Counted, 0, -1, true)
	wantCounts(t, api.Counted, -1, 0, false)
	wantCounts(t, api.Counted, math.MinInt, math.MinInt, false)
	wantCounts(t, api.Counted, 0, math.MinInt, true)
	wantCounts(t, api.Counted, math.MaxInt, math.MinInt, true)
	wantCounts(t, api.Counted, 1, 1<<32+1, true)
	wantCounts(t, api.Counted, 0, 1<<32, true)
}

// TestP14_1CountsOfATree: each kind, holder and target of a tree; who is above whom doesn't matter.
func TestP14_1CountsOfATree(t *testing.T) {
	all := family(t).plain.all()
	for _, holder := range append([]int{0}, all...) {
		for _, target := range all {
			wantCounts(t, api.Counted, holder, target, holder != target)
			for _, kind := range []int{api.Scalar, api.Same, api.Up} {
				wantCounts(t, kind, holder, target, false)
			}
		}
		wantCounts(t, api.Counted, holder, 0, false)
	}
}
