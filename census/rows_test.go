package census_test

import (
	"slices"
	"testing"

	"kraal/api"
	"kraal/census"
)

// TestP20_1Example: the chapter's.
func TestP20_1Example(t *testing.T) {
	for kind := range 4 {
		h := made(t, api.Config{Pages: 1}, 0)
		alloc(t, h, 1, array(kind, 1), 1)
		wantRows(t, h, row(1, 1, 2, 1, 0, 0))
		wantHeld(t, h, 1)
	}
}

// TestP20_1RowsOfNone: a heap without regions has no rows, whatever else it has, and none any more when all of them went.
func TestP20_1RowsOfNone(t *testing.T) {
	for _, c := range []api.Config{{Pages: 1}, {Pages: 2, Globals: 3}, {Pages: 1024, Globals: 64, Types: slices.Repeat([]api.Desc{allKinds}, 32)}} {
		h := made(t, c)
		wantRows(t, h)
		done(t, h.Push(3))
		wantRows(t, h)
		for range 3 {
			h.Region(0)
		}
		alloc(t, h, 2, array(api.Counted, 3), 1)
		wantRows(t, h, row(1, 0, 0, 0), row(2, 1, 4, 1), row(3, 0, 0, 0))
		done(t, h.Delete(1), h.Delete(3), h.Delete(2))
		wantRows(t, h)
		wantHeld(t, h, 2)
	}
}

// TestP20_1RowsOfNoObjects: regions without objects, without a parent, below others, as many as there may be.
func TestP20_1RowsOfNoObjects(t *testing.T) {
	h := made(t, api.Config{Pages: 1, Globals: 1})
	var want []census.Row
	for i := range 64 {
		h.Region(uint64(i) * uint64(i%3/2))
		want = append(want, row(i+1, 0, 0, 0))
		wantRows(t, h, want...)
	}
}

// TestP20_1RowsRise: by rising regions, whichever has objects first, and whichever went in between.
func TestP20_1RowsRise(t *testing.T) {
	h := made(t, api.Config{Pages: 9, Types: []api.Desc{desc(0, 0)}}, 0, 1, 0, 3, 1, 0)
	for _, region := range []uint64{6, 4, 1, 5, 2, 3} {
		for range region {
			_, e := h.Alloc(region, typed(0, 2))
			done(t, e)
		}
	}
	wantRows(t, h, row(1, 1, 3, 1), row(2, 2, 6, 1), row(3, 3, 9, 1), row(4, 4, 12, 1), row(5, 5, 15, 1), row(6, 6, 18, 2))
	done(t, h.Delete(4), h.Delete(5), h.Delete(3))
	wantRows(t, h, row(1, 1, 3, 1), row(2, 2, 6, 1), row(6, 6, 18, 2))
	h.Region(2)
	wantRows(t, h, row(1, 1, 3, 1), row(2, 2, 6, 1), row(6, 6, 18, 2), row(7, 0, 0, 0))
}

// TestP20_1RowsWordsOfArrays: of each length, also of no element: such a one takes one word beside the one ahead.
func TestP20_1RowsWordsOfArrays(t *testing.T) {
	lengths := []int{300, 3983, 3984, 3998, 3999, 4000}
	for n := range 70 {
		lengths = append(lengths, n)
	}
	for i, n := range lengths {
		h := made(t, api.Config{Pages: 600}, 0, 0)
		words := 1 + max(n, 1)
		pages := (words + 15) / 16
		alloc(t, h, 2, array(i%4, n), 1)
		wantRows(t, h, row(1, 0, 0, 0), row(2, 1, words, pages))
		h.Alloc(2, array((i+1)%4, n))
		if words <= 8 {
			wantRows(t, h, row(1, 0, 0, 0), row(2, 2, 2*words, 1))
		} else {
			wantRows(t, h, row(1, 0, 0, 0), row(2, 2, 2*words, 2*pages))
		}
	}
}

// TestP20_1RowsWordsOfTypes: of one field up to 60.
func TestP20_1RowsWordsOfTypes(t *testing.T) {
	for n := 1; n <= 60; n++ {
		h := made(t, api.Config{Pages: 12, Types: []api.Desc{desc(1), desc(slices.Repeat([]int{n % 4}, n)...)}}, 0)
		alloc(t, h, 1, typed(1, n), 1)
		wantRows(t, h, row(1, 1, n+1, (n+16)/16))
		h.Alloc(1, typed(0, 1))
		want := row(1, 2, n+3, (n+16)/16)
		// The small one finds room behind a small one alone.
		if n > 13 {
			want.Pages++
		}
		wantRows(t, h, want)
	}
}

// TestP20_1RowsNoFields: objects of no fields are counted as objects; nothing goes out of them, and something may point to them.
func TestP20_1RowsNoFields(t *testing.T) {
	h := made(t, api.Config{Pages: 3, Globals: 1}, 0, 0)
	for i := range uint64(9) {
		h.Alloc(1, array(int(i%4), 0))
	}
	alloc(t, h, 2, array(api.Counted, 2), 33)
	wantRows(t, h, row(1, 9, 18, 2), row(2, 1, 3, 1))
	done(t, h.Set(33, 0, 3), h.Set(33, 1, 17), h.SetGlobal(0, 3))
	wantRows(t, h, row(1, 9, 18, 2, 3, 0), row(2, 1, 3, 1, 0, 2))
	wantHeld(t, h, 1, 3, 17)
}

// TestP20_1RowsPages: pages of small objects, that stand in one together, and of large ones, in several runs, side by side with others'.
func TestP20_1RowsPages(t *testing.T) {
	h := made(t, api.Config{Pages: 12}, 0, 1, 0)
	alloc(t, h, 1, array(api.Scalar, 9), 1)
	alloc(t, h, 2, array(api.Scalar, 20), 17)
	alloc(t, h, 1, array(api.Scalar, 5), 11)
	wantRows(t, h, row(1, 2, 16, 1), row(2, 1, 21, 2), row(3, 0, 0, 0))
	alloc(t, h, 1, array(api.Scalar, 40), 49)
	alloc(t, h, 1, array(api.Scalar, 0), 97)
	alloc(t, h, 2, array(api.Scalar, 31), 113)
	alloc(t, h, 3, array(api.Scalar, 15), 145)
	wantRows(t, h, row(1, 4, 59, 5), row(2, 2, 53, 4), row(3, 1, 16, 1))
	done(t, h.Delete(2))
	wantRows(t, h, row(1, 4, 59, 5), row(3, 1, 16, 1))
	alloc(t, h, 3, array(api.Scalar, 0), 17)
	alloc(t, h, 3, array(api.Scalar, 17), 113)
	wantRows(t, h, row(1, 4, 59, 5), row(3, 3, 36, 4))
}

// TestP20_1RowsAllPages: the whole of the greatest heap, by one region and by many.
func TestP20_1RowsAllPages(t *testing.T) {
	for _, regions := range []int{1, 2, 64} {
		h := made(t, api.Config{Pages: 1024}, make([]uint64, regions)...)
		for h.Free() > 0 {
			for id := range regions {
				h.Alloc(uint64(id+1), array(api.Scalar, 31))
			}
		}
		n := 512 / regions
		for i, got := range census.Rows(h) {
			if want := row(i+1, n, 32*n, 2*n); got != want {
				t.Errorf("of %d regions: got %+v, want %+v", regions, got, want)
			}
		}
		if !census.Audit(h) {
			t.Errorf("of %d regions: Audit is false", regions)
		}
	}
}

// TestP20_1RowsOut: counted pointers to other regions go out, each of them, also where several of one object point to the same one; 0, and those to the own region, don't.
func TestP20_1RowsOut(t *testing.T) {
	h := beside(t)
	wantInOut(t, h, []int{0, 0, 0, 0, 0}, []int{0, 0, 0, 0, 0})
	done(t, h.Set(22, 0, 17), h.Set(22, 1, 22), h.Set(17, api.Counted, 22))
	wantInOut(t, h, []int{0, 0, 0, 0, 0}, []int{0, 0, 0, 0, 0})
	done(t, h.Set(22, 0, 65))
	wantInOut(t, h, []int{0, 0, 0, 0, 1}, []int{0, 1, 0, 0, 0})
	done(t, h.Set(22, 1, 65), h.Set(22, 2, 65), h.Set(17, api.Counted, 65))
	wantInOut(t, h, []int{0, 0, 0, 0, 4}, []int{0, 4, 0, 0, 0})
	wantHeld(t, h, 5, 65)
	done(t, h.Set(22, 1, 70), h.Set(22, 2, 1), h.Set(17, api.Counted, 49))
	wantInOut(t, h, []int{1, 0, 0, 1, 2}, []int{0, 4, 0, 0, 0})
	wantHeld(t, h, 5, 65, 70)
	done(t, h.Set(70, 1, 22), h.Set(6, 2, 22), h.Set(1, api.Counted, 17))
	wantInOut(t, h, []int{1, 3, 0, 1, 2}, []int{2, 4, 0, 0, 1})
	wantHeld(t, h, 2, 17, 22)
	done(t, h.Set(22, 0, 0), h.Set(22, 1, 0), h.Set(22, 2, 0), h.Set(17, api.Counted, 17))
	wantInOut(t, h, []int{0, 3, 0, 0, 0}, []int{2, 0, 0, 0, 1})
}

// TestP20_1RowsOtherKinds: fields Same and Up aren't counted, wherever they point, and a scalar is no pointer, also if its word is an object's address.
func TestP20_1RowsOtherKinds(t *testing.T) {
	none := []int{0, 0, 0, 0, 0}
	h := beside(t)
	for i := range uint64(5) {
		done(t, h.Set(16*i+1, api.Same, 16*i+6), h.Set(16*i+1, api.Up, 16*i+1), h.Set(16*i+1, api.Scalar, 65-16*i))
	}
	done(t, h.Set(17, api.Up, 1), h.Set(33, api.Up, 6), h.Set(49, api.Up, 1))
	wantInOut(t, h, none, none)
	for id := range uint64(7) {
		wantHeld(t, h, id)
	}
	done(t, h.Set(49, api.Up, 22))
	for _, at := range []uint64{1, 17, 33, 49, 65} {
		if e := h.Set(at, api.Same, 66-at); at != 33 && e == api.OK {
			t.Fatalf("a field Same points out of its region, from %d", at)
		}
	}
	wantInOut(t, h, none, none)
	wantHeld(t, h, 2)
}

// TestP20_1RowsRoots: globals and frames' slots, several of them to the same object, and behind a Pop.
func TestP20_1RowsRoots(t *testing.T) {
	h := beside(t)
	out := []int{0, 0, 0, 0, 0}
	done(t, h.SetGlobal(0, 33), h.SetGlobal(1, 33))
	wantInOut(t, h, []int{0, 0, 2, 0, 0}, out)
	wantHeld(t, h, 3, 33)
	done(t, h.Push(3), h.SetSlot(0, 33), h.SetSlot(2, 38), h.Push(2), h.SetSlot(1, 33), h.SetSlot(0, 1))
	wantInOut(t, h, []int{1, 0, 5, 0, 0}, out)
	wantHeld(t, h, 3, 33, 38)
	done(t, h.SetGlobal(1, 70), h.Pop())
	wantInOut(t, h, []int{0, 0, 3, 0, 1}, out)
	wantHeld(t, h, 1)
	done(t, h.SetGlobal(0, 0))
	wantHeld(t, h, 3, 33, 38)
	done(t, h.Pop())
	wantInOut(t, h, []int{0, 0, 0, 0, 1}, out)
	wantHeld(t, h, 3)
	wantHeld(t, h, 5, 70)
}

// TestP20_1RowsDelete: behind a Delete of a region that held others, and whose objects pointed out many times, what it held isn't held by it any more.
func TestP20_1RowsDelete(t *testing.T) {
	h := beside(t)
	done(t, h.Set(70, 0, 1), h.Set(70, 1, 6), h.Set(70, 2, 33), h.Set(65, api.Counted, 33), h.Set(54, 0, 33), h.SetGlobal(0, 6))
	wantInOut(t, h, []int{3, 0, 3, 0, 0}, []int{0, 0, 0, 1, 4})
	wantHeld(t, h, 1, 1, 6)
	done(t, h.Delete(5))
	wantInOut(t, h, []int{1, 0, 1, 0}, []int{0, 0, 0, 1})
	wantHeld(t, h, 1, 6)
	wantHeld(t, h, 3, 33)
	wantHeld(t, h, 5)
	done(t, h.Delete(4))
	wantInOut(t, h, []int{1, 0, 0}, []int{0, 0, 0})
	wantHeld(t, h, 3)
	h.Region(3)
	alloc(t, h, 6, typed(0, 4), 49)
	alloc(t, h, 6, array(api.Counted, 3), 54)
	wantRows(t, h, row(1, 2, 9, 1, 1, 0), row(2, 2, 9, 1), row(3, 2, 9, 1), row(6, 2, 9, 1))
	wantHeld(t, h, 4)
	wantHeld(t, h, 5)
}
