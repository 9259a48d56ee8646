package heap_test

import (
	"testing"

	"kraal/api"
)

// wantAllPages: each page is free, or of one region that lives, as Pages and Of tell it; and what is free is as many as Free tells.
func (p *pair) wantAllPages() {
	p.Helper()
	owners := make([]int, p.heap.Len())
	for _, id := range p.heap.Live() {
		for _, r := range p.heap.Pages(uint64(id)) {
			for page := r.From; page < r.From+r.N; page++ {
				if owners[page] != 0 {
					p.Errorf("the page %d is of %d, and of %d", page, owners[page], id)
				}
				owners[page] = id
			}
		}
	}
	free := 0
	for page, owner := range owners {
		if owner == 0 {
			free++
		}
		for i := range 16 {
			if at := uint64(16*page + i); p.heap.Of(at) != owner {
				p.Errorf("Of(%d): got %d, but the page is of %d", at, p.heap.Of(at), owner)
			}
		}
	}
	if p.heap.Free() != free {
		p.Errorf("Free: got %d, but %d pages are no region's", p.heap.Free(), free)
	}
}

// TestP19_4MixedRows: behind each call of long mixed rows.
func TestP19_4MixedRows(t *testing.T) {
	mixedRows(t, func(p *pair) { p.Helper(); p.wantAllPages() })
}

// TestP19_4EveryRow: behind every row of three calls at a small heap.
func TestP19_4EveryRow(t *testing.T) {
	everyRow(t, func(p *pair) { p.Helper(); p.wantAllPages() })
}

// TestP19_4AllGranted: pages are taken until none is free, by few regions and by many, by small objects and by large ones; what is free is granted, and all are free at the end.
func TestP19_4AllGranted(t *testing.T) {
	for _, x := range []struct{ pages, regions, n int }{{1, 1, 15}, {2, 2, 15}, {7, 3, 20}, {8, 4, 20}, {40, 5, 100}, {64, 64, 8}, {1024, 64, 60}, {1024, 3, 4000}} {
		p := made(t, api.Config{Pages: x.pages})
		for range x.regions {
			p.newRegion(0)
		}
		for range 2 * x.pages {
			for id := range x.regions {
				p.alloc(uint64(id+1), array(api.Scalar, x.n))
			}
			if p.heap.Free() == 0 {
				break
			}
		}
		p.wantAllPages()
		for id := range x.regions {
			if _, e := p.alloc(uint64(id+1), array(api.Scalar, 4000)); e != api.ErrFull {
				t.Errorf("of %+v: one more object: got %v", x, e)
			}
		}
		p.wantPlain()
		for id := range x.regions {
			p.delete(uint64(id + 1))
			p.wantAllPages()
		}
		if p.heap.Free() != x.pages {
			t.Errorf("of %+v: at the end %d are free", x, p.heap.Free())
		}
	}
}

// TestP19_4RoomHangsOnRuns: there is no room only if no free run is long enough: pages that were others' are granted, as soon as enough of them stand side by side.
func TestP19_4RoomHangsOnRuns(t *testing.T) {
	p := made(t, api.Config{Pages: 6})
	for id := range uint64(6) {
		p.wantRegion(0, id+1)
		p.wantAlloc(id+1, array(api.Scalar, 15), 16*id+1)
	}
	p.wantRegion(0, 7)
	for _, x := range []struct {
		gone uint64
		want uint64
	}{{2, 0}, {4, 0}, {6, 0}, {3, 17}} {
		p.want("Delete", p.delete(x.gone), api.OK)
		if at, _ := p.alloc(7, array(api.Counted, 40)); at != x.want {
			t.Errorf("behind Delete(%d): got %d, want %d", x.gone, at, x.want)
		}
		p.wantAllPages()
		p.wantPlain()
	}
}
