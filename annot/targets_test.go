package annot_test

import (
	"math"
	"slices"
	"testing"

	"kraal/annot"
	"kraal/api"
)

// wantByCheck: what Targets answers is what Check, asked of each number there is, lets; the numbers go up to most.
func (y *land) wantByCheck(kind, holder, most int) {
	y.Helper()
	var want []int
	for target := -3; target <= most; target++ {
		if y.tree.Has(target) && annot.Check(y.tree, kind, holder, target) == api.OK {
			want = append(want, target)
		}
	}
	y.wantTargets(kind, holder, want...)
}

// TestP14_1TargetsWritten: rising, whatever stands below what; never 0.
func TestP14_1TargetsWritten(t *testing.T) {
	y := family(t)
	y.wantTargets(api.Counted, 5, 1, 2, 3, 4, 5, 6, 7, 8, 9)
	y.wantTargets(api.Same, 5, 5)
	y.wantTargets(api.Up, 5, 3, 5, 8)
	y.wantTargets(api.Up, 6, 1, 3, 5, 6, 8)
	y.wantTargets(api.Up, 9, 3, 5, 8, 9)
	y.wantTargets(api.Up, 2, 2, 3, 4, 8)
	y.wantTargets(api.Up, 8, 8)
	y.wantTargets(api.Up, 7, 7)
	y.wantTargets(api.Counted, 7, 1, 2, 3, 4, 5, 6, 7, 8, 9)
	y.wantTargets(api.Scalar, 5)
	y.wantTargets(api.Counted, 0)
	y.wantTargets(api.Counted, 10)
	y.wantTargets(4, 5)
	grown(t).wantTargets(api.Counted, 1)
}

// TestP14_1TargetsByCheck: each kind and each holder, held against Check of each number there is.
func TestP14_1TargetsByCheck(t *testing.T) {
	holders := slices.Concat([]int{0, 1, 2, 3, 4, 5, 6, 7, 8, 9, 10, 20, 21}, wrong)
	for _, y := range []*land{
		grown(t), grown(t, link{1, 0}), grown(t, link{9, 0}, link{2, 9}), family(t),
		line(t, 20, func(i int) int { return i + 1 }),
		line(t, 20, func(i int) int { return 20 - i }),
		line(t, 19, func(i int) int { return 1 + i*7%19 }),
	} {
		for _, kind := range slices.Concat(allKinds, wrongKinds) {
			for _, holder := range holders {
				y.wantByCheck(kind, holder, 25)
			}
		}
	}
}

// TestP14_1TargetsEveryTree: of every tree of four numbers, held against Check.
func TestP14_1TargetsEveryTree(t *testing.T) {
	forests(t, []int{3, 1, 4, 2}, func(y *land) {
		for _, kind := range allKinds {
			for holder := -1; holder <= 6; holder++ {
				y.wantByCheck(kind, holder, 6)
			}
		}
	})
}

// TestP14_1TargetsOfNone: no tree, no such kind, no such holder: an empty list.
func TestP14_1TargetsOfNone(t *testing.T) {
	for _, holder := range []int{0, 1, 2, -1, math.MinInt, math.MaxInt} {
		for _, kind := range slices.Concat(allKinds, wrongKinds) {
			if l := annot.Targets(nil, kind, holder); len(l) != 0 {
				t.Errorf("Targets of no tree, %d, %d: got %v", kind, holder, l)
			}
			grown(t).wantTargets(kind, holder)
		}
	}
}
