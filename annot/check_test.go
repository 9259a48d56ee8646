package annot_test

import (
	"math"
	"slices"
	"testing"

	"kraal/annot"
	"kraal/api"
	"kraal/tree"
)

// family is a land about 5: above it are 3 and, above that, 8; its kids are 1 and 9, and 6 is below 1; beside it is 4, and 2 below that; 7 is apart.
func family(t *testing.T) *land {
	t.Helper()
	return grown(t, link{8, 0}, link{3, 8}, link{5, 3}, link{1, 5}, link{9, 5}, link{6, 1}, link{4, 3}, link{2, 4}, link{7, 0})
}

// TestP14_1Example is the chapter's example.
func TestP14_1Example(t *testing.T) {
	y := grown(t, link{1, 0}, link{2, 1})
	y.wantCheck(api.Up, 2, 1, api.OK)
	y.wantCheck(api.Up, 1, 2, api.ErrAnnot)
	y.wantTargets(api.Up, 2, 1, 2)
	y.wantTargets(api.Up, 1, 1)
	y.wantPlain(3)
}

// TestP14_1CheckWritten: of one holder, each kind and each target, written out by hand.
func TestP14_1CheckWritten(t *testing.T) {
	y := family(t)
	for _, a := range []struct {
		target        int
		counted, same api.Errno
		up            api.Errno
	}{
		{0, api.OK, api.OK, api.OK},             // nowhere
		{5, api.OK, api.OK, api.OK},             // itself
		{3, api.OK, api.ErrAnnot, api.OK},       // its parent
		{8, api.OK, api.ErrAnnot, api.OK},       // that one's parent
		{1, api.OK, api.ErrAnnot, api.ErrAnnot}, // its kid
		{9, api.OK, api.ErrAnnot, api.ErrAnnot}, // the other kid
		{6, api.OK, api.ErrAnnot, api.ErrAnnot}, // its kid's kid
		{4, api.OK, api.ErrAnnot, api.ErrAnnot}, // beside it
		{2, api.OK, api.ErrAnnot, api.ErrAnnot}, // below the one beside it
		{7, api.OK, api.ErrAnnot, api.ErrAnnot}, // apart
		{10, api.ErrNone, api.ErrNone, api.ErrNone},
		{-1, api.ErrNone, api.ErrNone, api.ErrNone},
	} {
		y.wantCheck(api.Counted, 5, a.target, a.counted)
		y.wantCheck(api.Same, 5, a.target, a.same)
		y.wantCheck(api.Up, 5, a.target, a.up)
		y.wantCheck(api.Scalar, 5, a.target, api.ErrKind)
	}
	y.wantPlain(wrong...)
}

// TestP14_1HolderWithoutParent: such a one's field Up may point to itself alone.
func TestP14_1HolderWithoutParent(t *testing.T) {
	y := family(t)
	for _, holder := range []int{7, 8} {
		for _, target := range y.plain.all() {
			want := api.ErrAnnot
			if target == holder {
				want = api.OK
			}
			y.wantCheck(api.Up, holder, target, want)
			y.wantCheck(api.Same, holder, target, want)
			y.wantCheck(api.Counted, holder, target, api.OK)
		}
		y.wantTargets(api.Up, holder, holder)
		y.wantTargets(api.Same, holder, holder)
	}
}

// TestP14_1TargetNowhere: the target 0 may be pointed to by all kinds of pointers, of holders that aren't in the tree too.
func TestP14_1TargetNowhere(t *testing.T) {
	for _, y := range []*land{grown(t), grown(t, link{1, 0}), family(t)} {
		for _, holder := range slices.Concat([]int{0, 1, 2, 8, 10}, wrong) {
			for _, kind := range []int{api.Counted, api.Same, api.Up} {
				y.wantCheck(kind, holder, 0, api.OK)
			}
			for _, kind := range wrongKinds {
				y.wantCheck(kind, holder, 0, api.ErrKind)
			}
		}
	}
}

// TestP14_1HolderNobody: the holder 0 isn't in the tree, so that a target that isn't 0 is ErrNone, of Counted too.
func TestP14_1HolderNobody(t *testing.T) {
	for _, y := range []*land{grown(t), grown(t, link{1, 0}), family(t)} {
		for _, kind := range []int{api.Counted, api.Same, api.Up} {
			y.wantCheck(kind, 0, 0, api.OK)
			for _, target := range slices.Concat([]int{1, 2, 5, 7, 8, 10}, wrong) {
				y.wantCheck(kind, 0, target, api.ErrNone)
			}
			y.wantTargets(kind, 0)
		}
	}
}

// TestP14_1NotInTheTree: holders and targets that aren't in the tree, one of both or both, and both the same.
func TestP14_1NotInTheTree(t *testing.T) {
	y := family(t)
	for _, kind := range []int{api.Counted, api.Same, api.Up} {
		for _, not := range append([]int{10, 11, 99}, wrong...) {
			for _, is := range y.plain.all() {
				y.wantCheck(kind, not, is, api.ErrNone)
				y.wantCheck(kind, is, not, api.ErrNone)
			}
			for _, other := range append([]int{10, 12}, wrong...) {
				y.wantCheck(kind, not, other, api.ErrNone)
			}
			y.wantCheck(kind, not, not, api.ErrNone)
			y.wantTargets(kind, not)
		}
	}
}

// TestP14_1WrongKinds: ErrKind, whatever holder and target are.
func TestP14_1WrongKinds(t *testing.T) {
	y := family(t)
	asked := slices.Concat([]int{0, 1, 3, 5, 7, 8, 10}, wrong)
	for _, kind := range wrongKinds {
		for _, holder := range asked {
			for _, target := range asked {
				y.wantCheck(kind, holder, target, api.ErrKind)
			}
			y.wantTargets(kind, holder)
		}
	}
}

// TestP14_1NoTree: of a nil tree it is ErrArg, with all else right and with all else wrong.
func TestP14_1NoTree(t *testing.T) {
	y := &land{T: t}
	asked := slices.Concat([]int{0, 1, 2}, wrong)
	for _, kind := range slices.Concat(allKinds, wrongKinds) {
		for _, holder := range asked {
			for _, target := range asked {
				y.wantCheck(kind, holder, target, api.ErrArg)
			}
			y.wantTargets(kind, holder)
		}
	}
}

// TestP14_1FirstError: where more than one thing is wrong, what the chapter tells first is answered; and what is right ahead of a fault behind it, too.
func TestP14_1FirstError(t *testing.T) {
	x := tree.New()
	_, _ = x.Add(1, 0), x.Add(2, 1)
	for _, a := range []struct {
		t                    *tree.Tree
		kind, holder, target int
		want                 api.Errno
	}{
		{nil, 9, 99, -1, api.ErrArg}, // all is wrong
		{nil, 0, 1, 0, api.ErrArg},   // no tree, no kind of pointers
		{nil, 3, 99, 1, api.ErrArg},  // no tree, and so no holder
		{nil, 2, 1, 0, api.ErrArg},   // no tree, but nowhere
		{x, 9, 99, -1, api.ErrKind},  // no kind, no holder, no target
		{x, 0, 99, 1, api.ErrKind},   // a scalar, no holder
		{x, 4, 1, 99, api.ErrKind},   // no kind, no target
		{x, -1, 1, 0, api.ErrKind},   // no kind, but nowhere
		{x, 0, 0, 0, api.ErrKind},    // a scalar, nobody's, but nowhere
		{x, 0, 1, 2, api.ErrKind},    // a scalar, of whom it wouldn't be right either
		{x, 2, 99, 0, api.OK},        // no holder, but nowhere
		{x, 2, 99, 1, api.ErrNone},   // no holder; the target isn't it either
		{x, 2, 1, 99, api.ErrNone},   // no target; it isn't the holder either
		{x, 3, 1, 99, api.ErrNone},   // no target; the holder isn't within it either
		{x, 3, 99, 98, api.ErrNone},  // neither of both
		{x, 2, 99, 99, api.ErrNone},  // neither, though the target is the holder
		{x, 1, 99, 1, api.ErrNone},   // Counted asks for the holder too
		{x, 2, 2, 1, api.ErrAnnot},   // it isn't the holder
		{x, 3, 1, 2, api.ErrAnnot},   // the holder isn't within it
		{x, 1, 1, 2, api.OK},         // Counted asks nothing more
	} {
		if e := annot.Check(a.t, a.kind, a.holder, a.target); e != a.want {
			t.Errorf("Check(%v, %d, %d, %d): got %v, want %v", a.t != nil, a.kind, a.holder, a.target, e, a.want)
		}
	}
}

// TestP14_1SmallTrees: of none, of one and of few, with all sorts of numbers that aren't there.
func TestP14_1SmallTrees(t *testing.T) {
	grown(t).wantPlain(append([]int{1, 2, 99}, wrong...)...)
	grown(t, link{1, 0}).wantPlain(append([]int{2, 99}, wrong...)...)
	grown(t, link{7, 0}).wantPlain(append([]int{1, 6, 8}, wrong...)...)
	grown(t, link{2, 0}, link{1, 2}).wantPlain(append([]int{3, 4}, wrong...)...)
	grown(t, link{2, 0}, link{1, 0}).wantPlain(append([]int{3, 4}, wrong...)...)
}

// TestP14_1EveryTree: every tree of up to five numbers, with each kind, holder and target.
func TestP14_1EveryTree(t *testing.T) {
	for n := range 6 {
		trees := 0
		forests(t, []int{3, 1, 5, 2, 4}[:n], func(y *land) {
			trees++
			y.wantPlain(-1, 6)
			if t.Failed() {
				t.Fatalf("tree %v", y.plain)
			}
		})
		if want := []int{1, 1, 3, 16, 125, 1296}[n]; trees != want {
			t.Errorf("of %d numbers: %d trees, want %d", n, trees, want)
		}
	}
}

// TestP14_1HugeNumbers: regions' numbers may be any from 1 on; those that are alike when cut short are told apart.
func TestP14_1HugeNumbers(t *testing.T) {
	y := grown(t, link{math.MaxInt, 0}, link{1, math.MaxInt}, link{1<<32 + 1, 1}, link{1<<62 + 1, 1<<32 + 1}, link{1 << 32, math.MaxInt}, link{1<<16 + 1, 0})
	y.wantPlain(-1, math.MinInt, math.MinInt+1, -math.MaxInt, 1<<31+1, 1<<61+1, math.MaxInt-1, 1<<8+1, 2)
	y.wantCheck(api.Same, 1<<32+1, 1, api.ErrAnnot)
	y.wantCheck(api.Same, 1<<32+1, 1<<32+1, api.OK)
	y.wantCheck(api.Up, 1<<62+1, math.MaxInt, api.OK)
	y.wantCheck(api.Up, 1<<62+1, 1<<32, api.ErrAnnot)
	y.wantTargets(api.Up, 1<<62+1, 1, 1<<32+1, 1<<62+1, math.MaxInt)
}

// TestP14_1DeepTrees: of a line in which numbers rise, or fall, on the way down, a field Up may point to all that are ahead of it.
func TestP14_1DeepTrees(t *testing.T) {
	const n = 60
	rising := line(t, n, func(i int) int { return i + 1 })
	falling := line(t, n, func(i int) int { return n - i })
	for holder := 1; holder <= n; holder++ {
		for target := 1; target <= n; target++ {
			up, down := api.OK, api.OK
			if target > holder {
				up = api.ErrAnnot
			}
			if target < holder {
				down = api.ErrAnnot
			}
			rising.wantCheck(api.Up, holder, target, up)
			falling.wantCheck(api.Up, holder, target, down)
		}
	}
	rising.wantPlain(n+1, n+2)
	falling.wantPlain(n+1, n+2)

	const far = 3000
	deep := line(t, far, func(i int) int { return i + 1 })
	deep.wantCheck(api.Up, far, 1, api.OK)
	deep.wantCheck(api.Up, 1, far, api.ErrAnnot)
	deep.wantCheck(api.Up, far-1, far, api.ErrAnnot)
	deep.wantCheck(api.Same, far, far-1, api.ErrAnnot)
	deep.wantCheck(api.Counted, 1, far, api.OK)
	deep.wantCheck(api.Up, far, far+1, api.ErrNone)
	if l := annot.Targets(deep.tree, api.Up, far-1); len(l) != far-1 || l[0] != 1 || l[far-2] != far-1 {
		t.Errorf("Targets of a line: got %d of them", len(l))
	}
}

// TestP14_1FlatTrees: many without a parent, and many below one.
func TestP14_1FlatTrees(t *testing.T) {
	apart, below := grown(t), grown(t, link{25, 0})
	for i := range 40 {
		id := 40 - i*7%40 // none shares a divisor with 40: all come
		apart.add(id, 0)
		if id != 25 {
			below.add(id, 25)
		}
	}
	apart.wantPlain(41)
	below.wantPlain(41)
	for id := 1; id <= 40; id++ {
		apart.wantTargets(api.Up, id, id)
		below.wantCheck(api.Up, id, 25, api.OK)
	}
	below.wantTargets(api.Up, 7, 7, 25)
	below.wantTargets(api.Up, 33, 25, 33)
	below.wantTargets(api.Up, 25, 25)
}
