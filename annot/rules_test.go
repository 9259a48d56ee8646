package annot_test

import (
	"slices"
	"testing"

	"kraal/annot"
	"kraal/api"
)

// TestR3TreeStays: Check, Counts and Targets change nothing of the tree that is handed in.
func TestR3TreeStays(t *testing.T) {
	asked := slices.Concat([]int{0, 1, 2, 3, 4, 5, 6, 7, 8, 9, 10}, wrong)
	for _, y := range []*land{grown(t), grown(t, link{1, 0}), family(t), line(t, 9, func(i int) int { return 9 - i })} {
		was := facts(y.tree, asked)
		for _, kind := range slices.Concat(allKinds, wrongKinds) {
			for _, holder := range asked {
				for _, target := range asked {
					_ = annot.Check(y.tree, kind, holder, target)
					_ = annot.Counts(kind, holder, target)
				}
				_ = annot.Targets(y.tree, kind, holder)
			}
			if got := facts(y.tree, asked); !slices.Equal(got, was) {
				t.Fatalf("of %v: the tree was changed, kind %d: got %v, want %v", y.plain, kind, got, was)
			}
		}
	}
}

// TestR3TargetsAreNew: who writes into what Targets answers, or behind its end, changes neither the tree nor another answer.
func TestR3TargetsAreNew(t *testing.T) {
	y := family(t)
	asked := []int{0, 1, 2, 3, 4, 5, 6, 7, 8, 9}
	was := facts(y.tree, asked)
	for _, kind := range allKinds {
		for _, holder := range asked {
			first, second := annot.Targets(y.tree, kind, holder), annot.Targets(y.tree, kind, holder)
			for i := range first {
				first[i] = -7
			}
			_ = append(first, -7)
			_ = append(first[:0], 99)
			if want := y.plain.targets(kind, holder); !slices.Equal(second, want) {
				t.Errorf("Targets(%d, %d): another answer was changed: %v, want %v", kind, holder, second, want)
			}
			y.wantPlain()
		}
	}
	if got := facts(y.tree, asked); !slices.Equal(got, was) {
		t.Errorf("the tree was changed: got %v, want %v", got, was)
	}
}

// TestR3TargetsStay: what was answered stays, whatever becomes of the tree.
func TestR3TargetsStay(t *testing.T) {
	y := family(t)
	counted, up := annot.Targets(y.tree, api.Counted, 6), annot.Targets(y.tree, api.Up, 6)
	y.remove(6)
	y.remove(1)
	y.add(10, 0)
	y.add(6, 10)
	if !slices.Equal(counted, []int{1, 2, 3, 4, 5, 6, 7, 8, 9}) || !slices.Equal(up, []int{1, 3, 5, 6, 8}) {
		t.Errorf("an answer changed later: %v, %v", counted, up)
	}
	y.wantTargets(api.Up, 6, 6, 10)
}

// TestR4NilIsEmpty: a list of none, answered for whatever reason, has no items, and may be nil.
func TestR4NilIsEmpty(t *testing.T) {
	for _, y := range []*land{{T: t}, grown(t), family(t)} {
		for _, kind := range []int{-1, api.Scalar, 4} {
			for _, holder := range []int{0, 1, 5, 99} {
				y.wantTargets(kind, holder, []int{}...)
				y.wantTargets(kind, holder, nil...)
			}
		}
	}
}

// TestR5SameAgain: what is answered doesn't hang on what was asked before, of this tree or of another one.
func TestR5SameAgain(t *testing.T) {
	y, other := grown(t, link{1, 0}, link{2, 1}, link{3, 0}), grown(t, link{2, 0}, link{1, 2}, link{4, 1})
	for range 3 {
		y.wantCheck(api.Up, 2, 1, api.OK)
		other.wantCheck(api.Up, 2, 1, api.ErrAnnot)
		y.wantCheck(api.Up, 1, 2, api.ErrAnnot)
		other.wantCheck(api.Up, 1, 2, api.OK)
		y.wantCheck(api.Counted, 1, 4, api.ErrNone)
		other.wantCheck(api.Counted, 1, 4, api.OK)
		y.wantTargets(api.Up, 2, 1, 2)
		other.wantTargets(api.Up, 4, 1, 2, 4)
		y.wantPlain(4)
		other.wantPlain(3)
	}
}
