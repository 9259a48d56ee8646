package census_test

import (
	"testing"

	"kraal/api"
	"kraal/heap"
)

// small is a heap of few pages, with a region 1, a region 2 below it, a region 3 beside it, and in each an object with a field of each kind: at 1, 17 and 33.
func small(t *testing.T) *heap.Heap {
	t.Helper()
	h := made(t, api.Config{Pages: 4, Globals: 1, Types: []api.Desc{allKinds}}, 0, 1, 0)
	for i := range uint64(3) {
		alloc(t, h, i+1, typed(0, 4), 16*i+1)
	}
	return h
}

// smallCalls are few calls at that heap.
var smallCalls = []struct {
	name string
	do   func(h *heap.Heap)
}{
	{"Region(2)", func(h *heap.Heap) { h.Region(2) }},
	{"Delete(1)", func(h *heap.Heap) { h.Delete(1) }},
	{"Delete(2)", func(h *heap.Heap) { h.Delete(2) }},
	{"Delete(3)", func(h *heap.Heap) { h.Delete(3) }},
	{"Alloc(2)", func(h *heap.Heap) { h.Alloc(2, typed(0, 4)) }},
	{"Alloc(3), large", func(h *heap.Heap) { h.Alloc(3, array(api.Counted, 15)) }},
	{"Alloc(1), no fields", func(h *heap.Heap) { h.Alloc(1, array(api.Counted, 0)) }},
	{"1 counts 17", func(h *heap.Heap) { h.Set(1, api.Counted, 17) }},
	{"17 counts 1", func(h *heap.Heap) { h.Set(17, api.Counted, 1) }},
	{"17 counts 6", func(h *heap.Heap) { h.Set(17, api.Counted, 6) }},
	{"17 counts 33", func(h *heap.Heap) { h.Set(17, api.Counted, 33) }},
	{"17 counts 22", func(h *heap.Heap) { h.Set(17, api.Counted, 22) }},
	{"33 counts 17", func(h *heap.Heap) { h.Set(33, api.Counted, 17) }},
	{"33 counts 1", func(h *heap.Heap) { h.Set(33, api.Counted, 1) }},
	{"17 up 1", func(h *heap.Heap) { h.Set(17, api.Up, 1) }},
	{"17 same 17", func(h *heap.Heap) { h.Set(17, api.Same, 17) }},
	{"33 scalar 17", func(h *heap.Heap) { h.Set(33, api.Scalar, 17) }},
	{"global 17", func(h *heap.Heap) { h.SetGlobal(0, 17) }},
	{"global 1", func(h *heap.Heap) { h.SetGlobal(0, 1) }},
	{"Push", func(h *heap.Heap) { h.Push(1) }},
	{"slot 17", func(h *heap.Heap) { h.SetSlot(0, 17) }},
	{"Pop", func(h *heap.Heap) { h.Pop() }},
}

// everyRow makes every row of three calls at a small heap, and checks behind the last one.
func everyRow(t *testing.T, check func(h *heap.Heap)) {
	t.Helper()
	for _, first := range smallCalls {
		for _, second := range smallCalls {
			for _, third := range smallCalls {
				h := small(t)
				first.do(h)
				second.do(h)
				third.do(h)
				check(h)
				if t.Failed() {
					t.Fatalf("behind %s; %s; %s", first.name, second.name, third.name)
				}
			}
		}
	}
}

// TestP20_1EveryRow: every row of three calls at a small heap.
func TestP20_1EveryRow(t *testing.T) {
	everyRow(t, func(h *heap.Heap) { t.Helper(); wantPlain(t, h) })
}

// TestP20_2EveryRow: likewise.
func TestP20_2EveryRow(t *testing.T) {
	everyRow(t, func(h *heap.Heap) { t.Helper(); wantSums(t, h) })
}

// TestP20_2EachPointer: whichever pointers there are, one from each object and root to each object, two of them at a time.
func TestP20_2EachPointer(t *testing.T) {
	var puts []func(h *heap.Heap)
	for to := range uint64(5) {
		v := 16*to + 1
		puts = append(puts, func(h *heap.Heap) { h.SetGlobal(0, v) }, func(h *heap.Heap) { h.SetGlobal(1, v+5) }, func(h *heap.Heap) { h.Push(1); h.SetSlot(0, v) })
		for from := range uint64(5) {
			for i := range uint64(4) {
				puts = append(puts, func(h *heap.Heap) { h.Set(16*from+1, i, v) })
			}
			puts = append(puts, func(h *heap.Heap) { h.Set(16*from+6, to%3, v+5) })
		}
	}
	for _, first := range puts {
		for _, second := range puts {
			h := beside(t)
			first(h)
			second(h)
			wantSums(t, h)
		}
		if t.Failed() {
			t.FailNow()
		}
	}
}

// TestP20_2Numbers: the sums of a heap that has something of all sorts.
func TestP20_2Numbers(t *testing.T) {
	h := busy(t)
	wantInOut(t, h, []int{1, 0, 1, 2, 2}, []int{0, 1, 0, 0, 2})
	wantSums(t, h)
	for id, want := range [][]uint64{nil, {6}, nil, {33}, {49}, {65}, nil} {
		wantHeld(t, h, uint64(id), want...)
	}
	done(t, h.Pop(), h.Pop(), h.Pop())
	wantInOut(t, h, []int{0, 0, 1, 2, 1}, []int{0, 1, 0, 0, 2})
	wantSums(t, h)
	done(t, h.Set(17, api.Counted, 0), h.Delete(5))
	wantInOut(t, h, []int{0, 0, 1, 0}, []int{0, 0, 0, 0})
	wantSums(t, h)
}
