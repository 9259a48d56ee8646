package census_test

import (
	"testing"

	"kraal/api"
	"kraal/census"
)

// TestP20_1HeldEach: each object of a region, and each number of them, is told if it is held, and only then, by a field and by each sort of root.
func TestP20_1HeldEach(t *testing.T) {
	h := made(t, api.Config{Pages: 2, Globals: 1}, 0, 0)
	for i := range uint64(4) {
		alloc(t, h, 1, array(api.Scalar, 1), 2*i+1)
	}
	alloc(t, h, 2, array(api.Counted, 2), 17)
	done(t, h.Push(1))
	put := []func(v uint64) api.Errno{
		func(v uint64) api.Errno { return h.Set(17, 0, v) },
		func(v uint64) api.Errno { return h.Set(17, 1, v) },
		func(v uint64) api.Errno { return h.SetGlobal(0, v) },
		func(v uint64) api.Errno { return h.SetSlot(0, v) },
	}
	for which := range 625 {
		var held [9]bool
		n := which
		for _, set := range put {
			v := uint64(2*(n%5) - 1)
			if n%5 == 0 {
				v = 0
			}
			done(t, set(v))
			held[v] = true
			n /= 5
		}
		var want []uint64
		for at := uint64(1); at < 9; at++ {
			if held[at] {
				want = append(want, at)
			}
		}
		wantHeld(t, h, 1, want...)
		wantHeld(t, h, 2)
		wantPlain(t, h)
	}
}

// TestP20_1HeldOnce: an object that is pointed to many times, from fields of one object, of several, and from roots, is told once.
func TestP20_1HeldOnce(t *testing.T) {
	h := made(t, api.Config{Pages: 300, Globals: 64}, 0, 1, 1)
	alloc(t, h, 1, array(api.Scalar, 1), 1)
	alloc(t, h, 1, array(api.Scalar, 1), 3)
	alloc(t, h, 2, array(api.Counted, 4000), 17)
	alloc(t, h, 3, array(api.Counted, 3), 4033)
	for i := range uint64(4000) {
		done(t, h.Set(17, i, 3))
	}
	for i := range uint64(3) {
		done(t, h.Set(4033, i, 3))
	}
	for i := range uint64(64) {
		done(t, h.SetGlobal(i, 3))
	}
	wantHeld(t, h, 1, 3)
	wantRows(t, h, row(1, 2, 4, 1, 4067, 0), row(2, 1, 4001, 251, 0, 4000), row(3, 1, 4, 1, 0, 3))
	done(t, h.Set(17, 3999, 1))
	wantHeld(t, h, 1, 1, 3)
}

// TestP20_1HeldRises: by rising addresses, of objects of several pages, in whichever order they were made, and are pointed to.
func TestP20_1HeldRises(t *testing.T) {
	for _, order := range [][]uint64{{1, 17, 49, 3, 113, 97}, {113, 97, 49, 17, 3, 1}, {49, 1, 113, 3, 17, 97}} {
		h := made(t, api.Config{Pages: 9, Globals: 6}, 0, 0)
		alloc(t, h, 1, array(api.Counted, 1), 1)
		alloc(t, h, 1, array(api.Counted, 30), 17)
		alloc(t, h, 1, array(api.Counted, 40), 49)
		alloc(t, h, 1, array(api.Counted, 1), 3)
		alloc(t, h, 2, array(api.Counted, 6), 97)
		alloc(t, h, 1, array(api.Counted, 12), 113)
		for i, at := range order {
			done(t, h.Set(97, uint64(5-i), at))
			wantPlain(t, h)
		}
		wantHeld(t, h, 1, 1, 3, 17, 49, 113)
		wantHeld(t, h, 2)
		for i, at := range order {
			done(t, h.Set(97, uint64(i), 0), h.SetGlobal(uint64(i), at))
		}
		wantHeld(t, h, 1, 1, 3, 17, 49, 113)
		wantHeld(t, h, 2, 97)
		wantPlain(t, h)
	}
}

// TestP20_1HeldFromWithin: pointers of the own region hold nothing, and none but counted ones do from outside; a scalar holds nothing.
func TestP20_1HeldFromWithin(t *testing.T) {
	h := beside(t)
	done(t, h.Set(1, api.Counted, 6), h.Set(1, api.Same, 6), h.Set(1, api.Up, 6), h.Set(6, 0, 1), h.Set(6, 1, 6))
	wantHeld(t, h, 1)
	done(t, h.Set(17, api.Up, 1), h.Set(49, api.Up, 6), h.Set(65, api.Scalar, 1), h.Set(17, api.Scalar, 6))
	wantHeld(t, h, 1)
	done(t, h.Set(17, api.Counted, 6))
	wantHeld(t, h, 1, 6)
	done(t, h.Set(17, api.Counted, 1))
	wantHeld(t, h, 1, 1)
	wantPlain(t, h)
}

// TestP20_1HeldWrong: of a number that is no region's, and of a region that went, nothing is held, also where these numbers, cut short, are those of regions of which something is.
func TestP20_1HeldWrong(t *testing.T) {
	h := made(t, api.Config{Pages: 6, Globals: 6}, 0, 0, 0, 0, 0)
	for i := range uint64(5) {
		alloc(t, h, i+1, array(api.Counted, 2), 16*i+1)
	}
	done(t, h.Delete(3))
	for i, at := range []uint64{1, 17, 49, 65} {
		done(t, h.SetGlobal(uint64(i), at))
	}
	for i, at := range []uint64{1, 17, 49, 65} {
		wantHeld(t, h, []uint64{1, 2, 4, 5}[i], at)
	}
	for _, region := range append([]uint64{0, 3, 6, 7, 64, 65, 1 << 16, 1<<16 + 1}, huge...) {
		wantHeld(t, h, region)
	}
	done(t, h.SetGlobal(0, 0), h.Delete(1))
	wantHeld(t, h, 1)
	wantPlain(t, h)
	// The page of a region that went is another one's: what is held there is that one's.
	h.Region(0)
	alloc(t, h, 6, array(api.Counted, 2), 1)
	done(t, h.SetGlobal(0, 1))
	wantHeld(t, h, 1)
	wantHeld(t, h, 6, 1)
	wantPlain(t, h)
}

// TestP20_1Nil: of a nil heap there are no rows, all is as it should be, and nothing is held.
func TestP20_1Nil(t *testing.T) {
	for range 2 {
		if got := census.Rows(nil); len(got) != 0 {
			t.Errorf("Rows: got %v", got)
		}
		if !census.Audit(nil) {
			t.Error("Audit: got false")
		}
		for _, region := range append([]uint64{0, 1, 2, 64}, huge...) {
			wantHeld(t, nil, region)
		}
	}
}
