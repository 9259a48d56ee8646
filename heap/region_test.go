package heap_test

import (
	"slices"
	"testing"

	"kraal/api"
)

// TestP19_1Example is the chapter's.
func TestP19_1Example(t *testing.T) {
	p := made(t, api.Config{Pages: 2})
	p.wantRegion(0, 1)
	p.wantAlloc(1, array(api.Counted, 1), 1)
	p.wantRegion(0, 2)
	p.wantAlloc(2, array(api.Counted, 1), 17)
	p.want("Set(1, 0, 17)", p.set(1, 0, 17), api.OK)
	p.wantCounts(0, 1)
	p.want("Delete(2)", p.delete(2), api.ErrHeld)
	p.want("Delete(1)", p.delete(1), api.OK)
	p.wantCounts(-1, 0)
	p.want("Delete(2)", p.delete(2), api.OK)
}

// TestP19_1RegionsParents: a region may be below one that lives, and below none; not below one that went, or never was.
func TestP19_1RegionsParents(t *testing.T) {
	p := made(t, api.Config{Pages: 1})
	refused := func(parent uint64) {
		t.Helper()
		if id, e := p.newRegion(parent); id != 0 || e != api.ErrNone {
			t.Errorf("Region(%d): got %d, %v", parent, id, e)
		}
		p.wantPlain()
	}
	refused(1) // its own number, that comes next
	p.wantRegion(0, 1)
	p.wantRegion(1, 2)
	p.wantRegion(2, 3)
	p.wantRegion(0, 4)
	p.wantRegion(1, 5)
	refused(6)
	p.want("Delete(3)", p.delete(3), api.OK)
	refused(3)
	p.wantRegion(2, 6)
	for _, parent := range huge {
		refused(parent)
	}
	p.wantRegion(4, 7)
	p.wantCounts(0, 0, -1, 0, 0, 0, 0)
}

// TestP19_1RegionsFull: 64 may live, no more; behind a Delete one more, with a number of its own.
func TestP19_1RegionsFull(t *testing.T) {
	p := made(t, api.Config{Pages: 1})
	for id := range uint64(64) {
		p.wantRegion(id/2, id+1)
	}
	for range 3 {
		if id, e := p.newRegion(0); id != 0 || e != api.ErrFull {
			t.Errorf("a 65th one: got %d, %v", id, e)
		}
		if id, e := p.newRegion(64); id != 0 || e != api.ErrFull {
			t.Errorf("a 65th one: got %d, %v", id, e)
		}
		// The parent is named first.
		for _, parent := range append(slices.Clone(huge), 65, 66) {
			if id, e := p.newRegion(parent); id != 0 || e != api.ErrNone {
				t.Errorf("Region(%d): got %d, %v", parent, id, e)
			}
		}
		p.wantPlain()
	}
	p.want("Delete(1)", p.delete(1), api.ErrBusy)
	p.want("Delete(40)", p.delete(40), api.OK)
	p.wantRegion(64, 65)
	if _, e := p.newRegion(0); e != api.ErrFull {
		t.Errorf("one more: got %v", e)
	}
	if _, e := p.newRegion(40); e != api.ErrNone {
		t.Errorf("one more, below one that went: got %v", e)
	}
	p.wantPlain()
}

// TestP19_1NumbersDontComeAgain: not even the last one's, and not of a call that was refused.
func TestP19_1NumbersDontComeAgain(t *testing.T) {
	p := made(t, api.Config{Pages: 1})
	for id := uint64(1); id < 300; id++ {
		p.wantRegion(0, id)
		p.newRegion(id + 1)
		p.wantAlloc(id, array(api.Scalar, 15), 1)
		p.want("Delete", p.delete(id), api.OK)
		p.want("Delete", p.delete(id), api.ErrNone)
		if _, e := p.alloc(id, array(api.Scalar, 1)); e != api.ErrNone {
			t.Errorf("Alloc of %d, that went: got %v", id, e)
		}
		p.newRegion(id)
	}
}

// TestP19_1DeleteOrder: of a region that doesn't live ErrNone; of a parent ErrBusy, its count or not; of one with a count ErrHeld.
func TestP19_1DeleteOrder(t *testing.T) {
	p := small(t)
	p.want("Delete(4)", p.delete(4), api.ErrNone)
	p.want("Delete(0)", p.delete(0), api.ErrNone)
	p.want("Delete(1)", p.delete(1), api.ErrBusy)
	p.want("SetGlobal(0, 1)", p.setGlobal(0, 1), api.OK)
	p.want("Delete(1)", p.delete(1), api.ErrBusy)
	p.want("Set(17, 1, 33)", p.set(17, api.Counted, 33), api.OK)
	p.want("Delete(3)", p.delete(3), api.ErrHeld)
	p.want("Delete(2)", p.delete(2), api.OK)
	p.want("Delete(2)", p.delete(2), api.ErrNone)
	p.want("Delete(1)", p.delete(1), api.ErrHeld)
	p.want("Delete(3)", p.delete(3), api.OK)
	p.want("SetGlobal(0, 0)", p.setGlobal(0, 0), api.OK)
	p.want("Delete(1)", p.delete(1), api.OK)
	p.wantCounts(-1, -1, -1)
}

// TestP19_1DeleteHolds: a region's own pointers within it, and those that aren't counted, don't hold it, and neither do scalars.
func TestP19_1DeleteHolds(t *testing.T) {
	p := small(t)
	for _, i := range []uint64{api.Counted, api.Same, api.Up} {
		p.want("Set", p.set(33, i, 33), api.OK)
	}
	p.want("Set(1, 0, 33)", p.set(1, api.Scalar, 33), api.OK)
	p.wantCounts(0, 0, 0)
	p.want("Delete(3)", p.delete(3), api.OK)
	p.want("Set(17, 3, 1)", p.set(17, api.Up, 1), api.OK)
	p.want("Set(17, 2, 17)", p.set(17, api.Same, 17), api.OK)
	p.want("Delete(2)", p.delete(2), api.OK)
	p.want("Delete(1)", p.delete(1), api.OK)
	if p.heap.Free() != 4 {
		t.Errorf("Free: got %d", p.heap.Free())
	}
}

// TestP19_1DeleteTakesCounts: what the region's counted pointers held, each one, is held by them no longer; what others hold is.
func TestP19_1DeleteTakesCounts(t *testing.T) {
	p := made(t, api.Config{Pages: 8, Globals: 1})
	for i := range uint64(4) {
		p.wantRegion(0, i+1)
		p.wantAlloc(i+1, array(api.Counted, 5), 16*i+1)
	}
	p.wantAlloc(2, array(api.Counted, 20), 65)
	for i, v := range []uint64{1, 1, 33, 17, 0} {
		p.want("Set", p.set(17, uint64(i), v), api.OK)
	}
	for i := range uint64(20) {
		p.want("Set", p.set(65, i, []uint64{1, 33, 49, 17}[i%4]), api.OK)
	}
	p.want("Set(49, 0, 33)", p.set(49, 0, 33), api.OK)
	p.want("Set(33, 4, 1)", p.set(33, 4, 1), api.OK)
	p.want("SetGlobal(0, 1)", p.setGlobal(0, 1), api.OK)
	p.wantCounts(2+5+1+1, 0, 1+5+1, 5)
	p.want("Delete(3)", p.delete(3), api.ErrHeld)
	p.want("Delete(2)", p.delete(2), api.OK)
	p.wantCounts(2, -1, 1, 0)
	p.want("Delete(4)", p.delete(4), api.OK)
	p.wantCounts(2, -1, 0, -1)
	p.want("Delete(3)", p.delete(3), api.OK)
	p.wantCounts(1, -1, -1, -1)
	p.want("Delete(1)", p.delete(1), api.ErrHeld)
}

// TestP19_1DeleteRefusedChangesNothing: what a region that may not go counts elsewhere stays counted, and its objects and pages stay.
func TestP19_1DeleteRefusedChangesNothing(t *testing.T) {
	p := small(t)
	p.want("Set(1, 1, 33)", p.set(1, api.Counted, 33), api.OK)
	p.want("Set(33, 1, 1)", p.set(33, api.Counted, 1), api.OK)
	p.want("Set(17, 3, 1)", p.set(17, api.Up, 1), api.OK)
	for range 3 {
		p.want("Delete(1)", p.delete(1), api.ErrBusy)
		p.want("Delete(3)", p.delete(3), api.ErrHeld)
		p.wantCounts(1, 0, 1)
		p.wantFields()
	}
}

// TestP19_1DeleteChain: regions each below the one ahead, that point up: they go from the lowest one on alone.
func TestP19_1DeleteChain(t *testing.T) {
	p := made(t, api.Config{Pages: 64, Types: []api.Desc{allKinds}})
	for i := range uint64(64) {
		p.wantRegion(i, i+1)
		p.wantAlloc(i+1, typed(0, 4), 16*i+1)
		for above := range i + 1 {
			p.want("Set", p.set(16*i+1, api.Up, 16*above+1), api.OK)
		}
		p.want("Set", p.set(16*i+1, api.Counted, 1), api.OK)
	}
	for i := range uint64(64) {
		p.want("Delete", p.delete(i+1), []api.Errno{api.ErrBusy, api.OK}[i/63])
	}
	p.wantRegion(63, 65)
	p.want("Delete(65)", p.delete(65), api.OK)
	for id := uint64(63); id > 0; id-- {
		p.want("Delete", p.delete(id), api.OK)
	}
	if p.heap.Free() != 64 || len(p.heap.Live()) != 0 {
		t.Errorf("at the end: Free %d, Live %v", p.heap.Free(), p.heap.Live())
	}
}

// TestP19_1LiveAndPages: regions without objects have no pages; runs of pages that stand side by side are told as one.
func TestP19_1LiveAndPages(t *testing.T) {
	p := made(t, api.Config{Pages: 8})
	p.wantRegion(0, 1)
	p.wantRegion(1, 2)
	p.wantPlain()
	for _, x := range []struct {
		id   uint64
		n    int
		want uint64
	}{{1, 1, 1}, {1, 16, 17}, {2, 15, 49}, {1, 40, 65}, {2, 0, 113}, {2, 1, 115}} {
		p.wantAlloc(x.id, array(api.Counted, x.n), x.want)
		p.wantPlain()
	}
	for id, want := range map[uint64][]api.Run{1: {{From: 0, N: 3}, {From: 4, N: 3}}, 2: {{From: 3, N: 1}, {From: 7, N: 1}}, 0: nil, 3: nil} {
		if got := p.heap.Pages(id); !slices.Equal(got, want) {
			t.Errorf("Pages(%d): got %v, want %v", id, got, want)
		}
	}
	p.want("Delete(2)", p.delete(2), api.OK)
	if got := p.heap.Pages(2); len(got) != 0 {
		t.Errorf("Pages of a region that went: got %v", got)
	}
	p.wantRegion(0, 3)
	if at, e := p.alloc(3, array(api.Scalar, 16)); at != 0 || e != api.ErrFull {
		t.Errorf("Alloc of two pages, of which none are side by side: got %d, %v", at, e)
	}
	p.wantAlloc(3, array(api.Scalar, 15), 49)
	p.wantAlloc(1, array(api.Scalar, 15), 113)
	p.wantPlain()
}
