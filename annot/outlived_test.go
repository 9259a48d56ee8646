package annot_test

import (
	"slices"
	"testing"

	"kraal/annot"
	"kraal/api"
)

// isAbove: whether one is another one's holder itself, or above it, told by the tree's parents alone.
func (y *land) isAbove(target, holder int) bool {
	for id := holder; id != 0; id = y.tree.Parent(id) {
		if id == target {
			return true
		}
	}
	return false
}

// wantNeverOutlived: what a field that isn't counted may point to is its holder, or above it, and can't be taken out ahead of it; and all of these may be pointed to by a field Up.
func (y *land) wantNeverOutlived(asked ...int) {
	y.Helper()
	asked = append(asked, y.plain.all()...)
	for _, holder := range asked {
		for _, target := range asked {
			for _, kind := range []int{api.Counted, api.Same, api.Up} {
				may := target != 0 && annot.Check(y.tree, kind, holder, target) == api.OK
				if may && !annot.Counts(kind, holder, target) {
					y.wantStays(kind, holder, target)
				}
			}
			if above := y.tree.Has(holder) && y.isAbove(target, holder); target != 0 && above != (annot.Check(y.tree, api.Up, holder, target) == api.OK) {
				y.Errorf("of %v: a field Up of %d, to %d: %v", y.plain, holder, target, !above)
			}
		}
		for _, kind := range []int{api.Same, api.Up} {
			for _, target := range annot.Targets(y.tree, kind, holder) {
				y.wantStays(kind, holder, target)
			}
		}
	}
}

// wantStays: the target is the holder, or above it; being above it, it can't be taken out.
func (y *land) wantStays(kind, holder, target int) {
	y.Helper()
	if !y.tree.Has(holder) || !y.isAbove(target, holder) {
		y.Errorf("of %v: a field %d of %d may point to %d", y.plain, kind, holder, target)
		return
	}
	if target == holder {
		return
	}
	if e := y.tree.Remove(target); e != api.ErrBusy {
		y.Fatalf("of %v: %d, to which a field %d of %d may point, could be taken out: %v", y.plain, target, kind, holder, e)
	}
}

// wantGone: one that was taken out may neither be pointed to any more, nor hold anything.
func (y *land) wantGone(gone int) {
	y.Helper()
	for _, other := range append([]int{gone, 0}, y.plain.all()...) {
		for _, kind := range []int{api.Counted, api.Same, api.Up} {
			y.wantCheck(kind, other, gone, api.ErrNone)
			if slices.Contains(annot.Targets(y.tree, kind, other), gone) {
				y.Errorf("of %v: Targets(%d, %d) has %d, that was taken out", y.plain, kind, other, gone)
			}
			if other != 0 {
				y.wantCheck(kind, gone, other, api.ErrNone)
			}
		}
	}
	for _, kind := range allKinds {
		y.wantTargets(kind, gone)
	}
}

// TestP14_2EveryTree: every tree of up to five numbers.
func TestP14_2EveryTree(t *testing.T) {
	for n := range 6 {
		forests(t, []int{3, 1, 5, 2, 4}[:n], func(y *land) {
			y.wantNeverOutlived(0, -1, 6)
			if t.Failed() {
				t.Fatalf("tree %v", y.plain)
			}
		})
	}
}

// TestP14_2TakenOut: every tree of four numbers, all of which are taken out again, those without kids first, and then put in again.
func TestP14_2TakenOut(t *testing.T) {
	forests(t, []int{3, 1, 4, 2}, func(y *land) {
		whole := slices.Clone(y.plain)
		for len(y.plain) > 0 {
			for _, l := range slices.Clone(y.plain) {
				if y.leaf(l.id) {
					y.remove(l.id)
					y.wantGone(l.id)
					y.wantNeverOutlived(0, l.id)
				}
			}
		}
		for _, l := range whole {
			y.add(l.id, l.parent)
			y.wantNeverOutlived(0, 5)
		}
		y.wantPlain(5)
		if t.Failed() {
			t.Fatalf("tree %v", whole)
		}
	})
}

// TestP14_2ChangesWithTheTree is told in plain numbers: one that was taken out, and put in again elsewhere.
func TestP14_2ChangesWithTheTree(t *testing.T) {
	y := grown(t, link{1, 0}, link{2, 1}, link{3, 2}, link{4, 1})
	y.wantCheck(api.Up, 3, 2, api.OK)
	y.wantCheck(api.Up, 3, 4, api.ErrAnnot)
	y.remove(3)
	y.wantCheck(api.Up, 3, 2, api.ErrNone)
	y.wantCheck(api.Same, 3, 3, api.ErrNone)
	y.wantCheck(api.Counted, 1, 3, api.ErrNone)
	y.add(3, 4)
	y.wantCheck(api.Up, 3, 2, api.ErrAnnot)
	y.wantCheck(api.Up, 3, 4, api.OK)
	y.wantCheck(api.Up, 3, 1, api.OK)
	y.wantCheck(api.Same, 3, 3, api.OK)
	y.wantTargets(api.Up, 3, 1, 3, 4)
	y.remove(2)
	y.wantGone(2)
	y.wantTargets(api.Counted, 1, 1, 3, 4)
	y.add(2, 3)
	y.wantTargets(api.Up, 2, 1, 2, 3, 4)
	y.wantTargets(api.Counted, 1, 1, 2, 3, 4)
	y.wantCheck(api.Up, 3, 2, api.ErrAnnot)
	y.wantNeverOutlived(0, 5)
}

// TestP14_2Mixed: long mixed rows of what is put in and taken out, of few numbers and of more.
func TestP14_2Mixed(t *testing.T) {
	for seed, most := range []int{4, 7, 15} {
		m := mixed(seed + 1)
		y := grown(t)
		for range 600 {
			id, parent := 1+m.next(most), m.next(most+1)
			switch {
			case !y.plain.has(id) && (parent == 0 || y.plain.has(parent)):
				y.add(id, parent)
			case y.plain.has(id) && y.leaf(id) && m.next(3) > 0:
				y.remove(id)
				y.wantGone(id)
			default:
				continue
			}
			y.wantNeverOutlived(0, id, most+1)
			y.wantPlain(id, most+1)
			if t.Failed() {
				t.Fatalf("most %d: %v", most, y.plain)
			}
		}
	}
}
