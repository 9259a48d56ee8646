package heap_test

import (
	"testing"

	"kraal/api"
	"kraal/sweep"
)

// wantSwept: each region's count is what layer 18 finds among what the heap tells.
func (p *pair) wantSwept() {
	p.Helper()
	objects, roots := p.heap.Objects(), p.heap.Roots()
	found := map[int]int{}
	for _, r := range sweep.Counts(objects, roots) {
		found[r.From] = r.N
	}
	for _, id := range p.heap.Live() {
		if n, e := p.heap.Count(uint64(id)); n != uint64(found[id]) || e != api.OK {
			p.Errorf("Count(%d): got %d, %v, found %d", id, n, e, found[id])
		}
		delete(found, id)
	}
	if len(found) > 0 {
		p.Errorf("these regions don't live, and have counts: %v", found)
	}
}

// TestP19_2MixedRows: behind each call of long mixed rows.
func TestP19_2MixedRows(t *testing.T) {
	mixedRows(t, func(p *pair) { p.Helper(); p.wantSwept() })
}

// TestP19_2EveryRow: behind every row of three calls at a small heap.
func TestP19_2EveryRow(t *testing.T) {
	everyRow(t, func(p *pair) { p.Helper(); p.wantSwept() })
}

// TestP19_2EachRegion: of one region after the other, what Incoming says, as pointers of all kinds are set, from all sides, and go with what holds them.
func TestP19_2EachRegion(t *testing.T) {
	p := beside(t)
	want := func(counts ...uint64) {
		t.Helper()
		for i, n := range counts {
			id := i + 1
			if got, _ := p.heap.Count(uint64(id)); got != n || uint64(sweep.Incoming(p.heap.Objects(), p.heap.Roots(), id)) != n {
				t.Errorf("Count(%d): got %d, want %d, found %d", id, got, n, sweep.Incoming(p.heap.Objects(), p.heap.Roots(), id))
			}
		}
	}
	for from := range uint64(5) {
		for to := range uint64(5) {
			at, v := 16*from+1, 16*to+1
			for i := range uint64(4) {
				p.set(at, i, v)
			}
			p.set(16*from+6, to%3, v)
		}
	}
	p.setGlobal(0, 1)
	p.push(2)
	p.setSlot(0, 6)
	p.setSlot(1, 65)
	want(2, 0, 4, 4, 9)
	p.set(65, api.Counted, 49)
	p.pop()
	want(1, 0, 4, 5, 8)
	p.want("Delete(4)", p.delete(4), api.ErrHeld)
	want(1, 0, 4, 5, 8)
	for _, at := range []uint64{6, 22, 38, 70} {
		p.set(at, 0, 0)
	}
	p.set(65, api.Counted, 0)
	want(1, 0, 4, 0, 8)
	p.want("Delete(4)", p.delete(4), api.OK)
	p.wantCounts(1, 0, 3, -1, 6)
	p.wantSwept()
}
