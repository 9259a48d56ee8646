package heap_test

import (
	"slices"
	"testing"

	"kraal/api"
)

// TestP19_1Globals: what is set, and set anew, is counted as it is then.
func TestP19_1Globals(t *testing.T) {
	p := beside(t)
	for _, x := range []struct {
		i, v   uint64
		counts []int
	}{
		{0, 1, []int{1, 0, 0, 0, 0}}, {1, 1, []int{2, 0, 0, 0, 0}}, {0, 6, []int{2, 0, 0, 0, 0}}, {0, 65, []int{1, 0, 0, 0, 1}}, {1, 65, []int{0, 0, 0, 0, 2}},
		{1, 0, []int{0, 0, 0, 0, 1}}, {1, 17, []int{0, 1, 0, 0, 1}}, {0, 0, []int{0, 1, 0, 0, 0}}, {1, 17, []int{0, 1, 0, 0, 0}}, {1, 0, []int{0, 0, 0, 0, 0}},
	} {
		p.want("SetGlobal", p.setGlobal(x.i, x.v), api.OK)
		p.wantCounts(x.counts...)
		p.wantFields()
	}
}

// TestP19_1GlobalsOrder: the slot is named ahead of the pointer.
func TestP19_1GlobalsOrder(t *testing.T) {
	p := beside(t)
	p.want("SetGlobal", p.setGlobal(1, 65), api.OK)
	for _, i := range append(slices.Clone(huge), 2, 3, 64) {
		for _, v := range []uint64{0, 1, 2, 1 << 63} {
			p.want("SetGlobal", p.setGlobal(i, v), api.ErrRange)
		}
		p.global(i)
	}
	for _, v := range nowhere {
		p.want("SetGlobal", p.setGlobal(1, v), api.ErrPtr)
	}
	p.wantCounts(0, 0, 0, 0, 1)
	none := made(t, api.Config{Pages: 1})
	none.want("SetGlobal", none.setGlobal(0, 0), api.ErrRange)
	none.want("SetGlobal", none.setGlobal(0, 9), api.ErrRange)
	none.global(0)
}

// TestP19_1Frames: the top frame's slots are set and told; they go with it, and what they counted goes with them.
func TestP19_1Frames(t *testing.T) {
	p := beside(t)
	p.want("Push", p.push(3), api.OK)
	p.want("SetSlot", p.setSlot(0, 1), api.OK)
	p.want("SetSlot", p.setSlot(2, 65), api.OK)
	p.wantCounts(1, 0, 0, 0, 1)
	p.want("Push", p.push(2), api.OK)
	p.want("SetSlot", p.setSlot(0, 65), api.OK)
	p.want("SetSlot", p.setSlot(1, 70), api.OK)
	p.want("SetSlot", p.setSlot(2, 70), api.ErrRange)
	p.wantCounts(1, 0, 0, 0, 3)
	p.wantFields()
	p.want("SetSlot", p.setSlot(1, 22), api.OK)
	p.wantCounts(1, 1, 0, 0, 2)
	p.want("Push", p.push(0), api.OK)
	p.want("SetSlot", p.setSlot(0, 0), api.ErrRange)
	p.want("Pop", p.pop(), api.OK)
	p.want("Delete(5)", p.delete(5), api.ErrHeld)
	p.want("Pop", p.pop(), api.OK)
	p.wantCounts(1, 0, 0, 0, 1)
	p.wantFields()
	p.want("SetSlot", p.setSlot(2, 0), api.OK)
	p.want("Delete(5)", p.delete(5), api.OK)
	p.want("Pop", p.pop(), api.OK)
	p.wantCounts(0, 0, 0, 0, -1)
	p.want("Pop", p.pop(), api.ErrNone)
}

// TestP19_1FramesOrder: that there is no frame is named ahead of all else, the slot ahead of the pointer.
func TestP19_1FramesOrder(t *testing.T) {
	p := beside(t)
	all := append(slices.Clone(huge), 0, 1, 2, 16, 17)
	for _, i := range all {
		for _, v := range []uint64{0, 1, 2, 1 << 63} {
			p.want("SetSlot", p.setSlot(i, v), api.ErrNone)
		}
		p.slot(i)
	}
	p.want("Push", p.push(2), api.OK)
	p.want("SetSlot", p.setSlot(1, 65), api.OK)
	for _, i := range append(slices.Clone(huge), 2, 3, 16) {
		for _, v := range []uint64{0, 1, 2, 1 << 63} {
			p.want("SetSlot", p.setSlot(i, v), api.ErrRange)
		}
		p.slot(i)
	}
	for _, v := range nowhere {
		p.want("SetSlot", p.setSlot(1, v), api.ErrPtr)
	}
	p.wantCounts(0, 0, 0, 0, 1)
}

// TestP19_1FramesMany: 64 frames of all sizes up to 16 slots, all of them set, and no 65th one; then they go.
func TestP19_1FramesMany(t *testing.T) {
	p := beside(t)
	for n := range uint64(64) {
		for _, wrong := range append([]uint64{17, 18}, huge...) {
			p.want("Push", p.push(wrong), api.ErrArg)
		}
		p.want("Push", p.push(n%17), api.OK)
		for i := range n % 17 {
			p.want("SetSlot", p.setSlot(i, []uint64{1, 17, 33, 49, 65, 70, 0}[(n+i)%7]), api.OK)
		}
	}
	p.want("Push", p.push(1), api.ErrFull)
	p.want("Push", p.push(17), api.ErrArg)
	p.wantFields()
	for range 64 {
		p.want("Pop", p.pop(), api.OK)
		p.slot(0)
	}
	p.want("Pop", p.pop(), api.ErrNone)
	p.wantCounts(0, 0, 0, 0, 0)
}

// TestP19_1FramesFresh: the slots of a frame that comes where another one was are 0, and count nothing when it goes.
func TestP19_1FramesFresh(t *testing.T) {
	p := beside(t)
	for range 3 {
		p.want("Push", p.push(2), api.OK)
		p.wantFields()
		p.want("SetSlot", p.setSlot(0, 65), api.OK)
		p.want("Pop", p.pop(), api.OK)
		p.want("Push", p.push(16), api.OK)
		p.wantFields()
		p.want("Pop", p.pop(), api.OK)
		p.wantCounts(0, 0, 0, 0, 0)
	}
}

// TestP19_1Roots: what is in all globals, in order, and then in all frames, the lowest one first.
func TestP19_1Roots(t *testing.T) {
	p := beside(t)
	want := func(words ...uint64) {
		t.Helper()
		if got := p.heap.Roots(); !slices.Equal(got, words) {
			t.Errorf("Roots: got %v, want %v", got, words)
		}
		p.wantPlain()
	}
	want(0, 0)
	p.setGlobal(1, 65)
	want(0, 65)
	p.push(2)
	p.setSlot(0, 33)
	want(0, 65, 33, 0)
	p.push(0)
	p.push(1)
	p.setSlot(0, 1)
	p.setGlobal(0, 17)
	want(17, 65, 33, 0, 1)
	p.pop()
	p.pop()
	want(17, 65, 33, 0)
}
