package heap_test

import (
	"math"
	"slices"
	"testing"

	"kraal/api"
)

// beside is a pair with the regions 1; 2 and 3 below 1; 4 below 2; and 5 beside them all. In each is an object with a field of each kind, at 1, 17, 33, 49 and 65, and an array of three counted pointers behind it: at 6, 22, 38, 54 and 70.
func beside(t *testing.T) *pair {
	t.Helper()
	p := made(t, api.Config{Pages: 6, Globals: 2, Types: []api.Desc{allKinds}})
	for i, parent := range []uint64{0, 1, 1, 2, 0} {
		p.wantRegion(parent, uint64(i+1))
		p.wantAlloc(uint64(i+1), typed(0, 4), uint64(16*i+1))
		p.wantAlloc(uint64(i+1), array(api.Counted, 3), uint64(16*i+6))
	}
	return p
}

// TestP19_1SetKinds: of a field of each kind: to 0, to its own region, to its parent, to one above that, below, and beside.
func TestP19_1SetKinds(t *testing.T) {
	const (
		ok    = api.OK
		annot = api.ErrAnnot
	)
	for _, x := range []struct {
		at, v                     uint64
		scalar, counted, same, up api.Errno
	}{
		{49, 0, ok, ok, ok, ok},
		{49, 49, ok, ok, ok, ok},       // itself
		{49, 54, ok, ok, ok, ok},       // another one of its region
		{49, 17, ok, ok, annot, ok},    // the parent's
		{49, 22, ok, ok, annot, ok},    //
		{49, 1, ok, ok, annot, ok},     // above the parent
		{49, 33, ok, ok, annot, annot}, // beside the parent
		{49, 65, ok, ok, annot, annot}, // beside all
		{17, 33, ok, ok, annot, annot}, // beside
		{17, 49, ok, ok, annot, annot}, // below
		{1, 49, ok, ok, annot, annot},  // below that
		{1, 38, ok, ok, annot, annot},
		{1, 6, ok, ok, ok, ok},
		{65, 1, ok, ok, annot, annot},
		{65, 70, ok, ok, ok, ok},
	} {
		p := beside(t)
		for kind, want := range []api.Errno{x.scalar, x.counted, x.same, x.up} {
			p.want("Set", p.set(x.at, uint64(kind), x.v), want)
		}
		p.wantFields()
	}
}

// TestP19_1SetEveryPointer: every field of every object set to every object and to 0, from each of them on to each other one.
func TestP19_1SetEveryPointer(t *testing.T) {
	p := beside(t)
	addresses := []uint64{0}
	for _, o := range p.plain.objects() {
		addresses = append(addresses, uint64(o.At))
	}
	for _, o := range p.plain.objects() {
		for i := range uint64(len(o.Kinds)) {
			for _, old := range addresses {
				for _, v := range addresses {
					p.set(uint64(o.At), i, old)
					p.set(uint64(o.At), i, v)
					p.wantPlain()
				}
			}
			p.set(uint64(o.At), i, addresses[1+i])
		}
	}
	p.wantFields()
}

// TestP19_1SetScalar: a scalar takes every word, that of an object's address, and of none; it is no pointer, and isn't counted.
func TestP19_1SetScalar(t *testing.T) {
	p := beside(t)
	for _, v := range append(slices.Clone(huge), 0, 1, 2, 17, 18, 33, 65, 66, 95, 96) {
		p.want("Set", p.set(17, api.Scalar, v), api.OK)
		if got, e := p.heap.Get(17, api.Scalar); got != v || e != api.OK {
			t.Errorf("Get: got %d, %v, want %d", got, e, v)
		}
		p.wantCounts(0, 0, 0, 0, 0)
	}
}

// nowhere are words that are no object's address of the pair beside: heads', those inside of objects, in free pages, behind all.
var nowhere = append([]uint64{2, 3, 4, 5, 7, 8, 9, 10, 15, 16, 18, 32, 48, 66, 71, 80, 81, 95, 96, 97}, huge...)

// TestP19_1SetNoPointer: what is no object's address is stored into no field of a kind of pointers.
func TestP19_1SetNoPointer(t *testing.T) {
	p := beside(t)
	for i := range uint64(3) {
		p.want("Set", p.set(17, i+1, 22), api.OK)
	}
	for _, v := range nowhere {
		for i := range uint64(3) {
			p.want("Set", p.set(17, i+1, v), api.ErrPtr)
			p.want("Set", p.set(54, i, v), api.ErrPtr)
		}
		p.want("SetGlobal", p.setGlobal(1, v), api.ErrPtr)
	}
	p.wantFields()
}

// TestP19_1SetOrder: the object is named ahead of the field, that ahead of the pointer, that ahead of the annotation.
func TestP19_1SetOrder(t *testing.T) {
	p := beside(t)
	for _, i := range append(slices.Clone(huge), 4, 5, 16) {
		for _, v := range append(slices.Clone(nowhere), 0, 1, 17, 65) {
			if e := p.set(17, i, v); e != api.ErrRange {
				t.Errorf("Set(17, %d, %d): got %v", i, v, e)
			}
		}
		p.get(17, i)
	}
	for _, at := range append(slices.Clone(nowhere), 0) {
		for _, i := range []uint64{0, 1, 4, 1 << 63, math.MaxUint64} {
			for _, v := range []uint64{0, 1, 2, 65, math.MaxUint64} {
				if e := p.set(at, i, v); e != api.ErrPtr {
					t.Errorf("Set(%d, %d, %d): got %v", at, i, v, e)
				}
			}
			p.get(at, i)
		}
	}
	for _, i := range []uint64{api.Same, api.Up} {
		p.want("Set", p.set(17, i, 66), api.ErrPtr)
		p.want("Set", p.set(17, i, 65), api.ErrAnnot)
	}
	p.wantCounts(0, 0, 0, 0, 0)
}

// TestP19_1SetGone: a pointer can't be set to an object that has gone with its region.
func TestP19_1SetGone(t *testing.T) {
	p := beside(t)
	p.want("Set", p.set(65, api.Same, 70), api.OK)
	p.want("Delete(5)", p.delete(5), api.OK)
	for i := range uint64(3) {
		p.want("Set", p.set(1, i+1, 65), api.ErrPtr)
		p.want("Set", p.set(1, i+1, 70), api.ErrPtr)
	}
	p.want("SetGlobal", p.setGlobal(0, 65), api.ErrPtr)
	p.want("Push", p.push(1), api.OK)
	p.want("SetSlot", p.setSlot(0, 65), api.ErrPtr)
	p.want("Set", p.set(1, api.Scalar, 65), api.OK)
	// Another one's object begins there.
	p.wantRegion(1, 6)
	p.wantAlloc(6, array(api.Up, 2), 65)
	p.want("Set", p.set(1, api.Up, 65), api.ErrAnnot)
	p.want("Set", p.set(1, api.Counted, 65), api.OK)
	p.want("Set", p.set(1, api.Counted, 70), api.ErrPtr)
	p.want("Set", p.set(65, 1, 1), api.OK)
	p.wantCounts(0, 0, 0, 0, -1, 1)
}

// TestP19_1SetAgain: a pointer that is set to what it holds already stays, and so do the counts.
func TestP19_1SetAgain(t *testing.T) {
	p := beside(t)
	p.want("Push", p.push(1), api.OK)
	for range 3 {
		p.want("Set", p.set(17, api.Counted, 65), api.OK)
		p.want("Set", p.set(17, api.Up, 1), api.OK)
		p.want("Set", p.set(17, api.Same, 22), api.OK)
		p.want("Set", p.set(22, 0, 22), api.OK)
		p.want("SetGlobal", p.setGlobal(1, 33), api.OK)
		p.want("SetSlot", p.setSlot(0, 33), api.OK)
		p.wantCounts(0, 0, 2, 0, 1)
	}
}

// TestP19_1SetFromTo: counts go with a pointer that is set from one region's object to another one's, to another object of the same region, to its own region, and to 0.
func TestP19_1SetFromTo(t *testing.T) {
	p := beside(t)
	for _, x := range []struct {
		v      uint64
		counts []int
	}{
		{1, []int{1, 0, 0, 0, 0}}, {6, []int{1, 0, 0, 0, 0}}, {65, []int{0, 0, 0, 0, 1}}, {33, []int{0, 0, 1, 0, 0}}, {17, []int{0, 0, 0, 0, 0}}, {49, []int{0, 0, 0, 1, 0}},
		{0, []int{0, 0, 0, 0, 0}}, {22, []int{0, 0, 0, 0, 0}}, {70, []int{0, 0, 0, 0, 1}}, {0, []int{0, 0, 0, 0, 0}},
	} {
		p.want("Set", p.set(22, 1, x.v), api.OK)
		p.wantCounts(x.counts...)
	}
	// What is refused changes no count, and stays what it was.
	p.want("Set", p.set(22, 1, 65), api.OK)
	p.want("Set", p.set(22, 1, 66), api.ErrPtr)
	p.want("Set", p.set(22, 3, 1), api.ErrRange)
	p.wantCounts(0, 0, 0, 0, 1)
}

// TestP19_1GetEmpty: of an object without fields no field can be asked or set, though a pointer may point to it.
func TestP19_1GetEmpty(t *testing.T) {
	p := made(t, api.Config{Pages: 2, Globals: 1})
	p.wantRegion(0, 1)
	p.wantAlloc(1, array(api.Scalar, 0), 1)
	p.wantAlloc(1, array(api.Counted, 0), 3)
	p.wantAlloc(1, array(api.Same, 2), 5)
	for _, at := range []uint64{1, 3} {
		for _, i := range append([]uint64{0, 1, 2}, huge...) {
			p.want("Set", p.set(at, i, 0), api.ErrRange)
			p.get(at, i)
		}
	}
	p.want("Set", p.set(5, 0, 1), api.OK)
	p.want("Set", p.set(5, 1, 3), api.OK)
	p.want("SetGlobal", p.setGlobal(0, 3), api.OK)
	p.wantCounts(1)
	p.want("Set", p.set(5, 1, 2), api.ErrPtr)
	p.want("Delete", p.delete(1), api.ErrHeld)
}

// TestP19_1SetLong: of a long array each field is one of its own, in pages side by side.
func TestP19_1SetLong(t *testing.T) {
	p := made(t, api.Config{Pages: 300})
	p.wantRegion(0, 1)
	p.wantRegion(0, 2)
	p.wantAlloc(1, array(api.Scalar, 4000), 1)
	p.wantAlloc(2, array(api.Counted, 500), 4017)
	for i := range uint64(4000) {
		p.set(1, i, math.MaxUint64-i)
	}
	for i := range uint64(500) {
		p.set(4017, i, 1)
	}
	p.wantCounts(500, 0)
	p.wantFields()
	p.want("Set", p.set(4017, 499, 4017), api.OK)
	p.wantCounts(499, 0)
	p.want("Delete(2)", p.delete(2), api.OK)
	p.wantCounts(0, -1)
}
