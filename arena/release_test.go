package arena_test

import (
	"slices"
	"testing"

	"kraal/api"
)

// TestP11_1Release: all pages of the arena are free behind it, and no other's; it is as it was at first, and the same things are placed again.
func TestP11_1Release(t *testing.T) {
	for _, row := range behindWhat() {
		y := newYard(t, 5, 2)
		y.play(row)
		y.soil()
		y.release(0, api.OK)
		y.whole()
		if a := y.arenas[0]; len(a.Runs()) != 0 || len(a.Things()) != 0 || a.Pages() != 0 {
			t.Errorf("got %v, %v, %d pages", a.Runs(), a.Things(), a.Pages())
		}
		y.release(1, api.OK)
		y.whole()
		if y.pages.Free() != 5 {
			t.Errorf("%d pages are free", y.pages.Free())
		}
		y.play(row)
		if t.Failed() {
			t.Fatalf("behind %v", row)
		}
	}
}

// TestP11_1ReleaseLeavesTheOthers: what the other arenas, and somebody else, have stays theirs, and no page of small things is mistaken for one that is there.
func TestP11_1ReleaseLeavesTheOthers(t *testing.T) {
	y := laid(t, "#.........", 3)
	y.play([]step{{0, 5, 16, 0}, {1, 5, 32, 0}, {0, 20, 48, 0}, {2, 17, 80, 0}, {1, 40, 112, 0}})
	y.soil()
	y.release(0, api.OK)
	y.whole()
	y.play([]step{
		{1, 2, 37, 0}, // in its page, as ahead of it
		{0, 2, 16, 0}, // at the front of a page of its own: the one that was there went
		{2, 1, 48, 0},
		{0, 14, 18, 0},
		{0, 1, 64, 0},
	})
	y.release(2, api.OK)
	y.whole()
	y.play([]step{{0, 20, 80, 0}, {0, 15, 65, 0}, {1, 9, 39, 0}, {1, 1, 48, 0}})
	if y.pages.Free() != 0 || !y.pages.Granted(0) {
		t.Errorf("%d pages are free", y.pages.Free())
	}
}

// TestP11_1ReleaseAgain: there is nothing to give back any more, though the pages are another one's by then.
func TestP11_1ReleaseAgain(t *testing.T) {
	y := newYard(t, 4, 2)
	y.play([]step{{0, 20, 0, 0}, {0, 3, 32, 0}})
	y.release(0, api.OK)
	y.play([]step{{1, 40, 0, 0}})
	for range 3 {
		y.release(0, api.OK)
		y.whole()
	}
	if y.arenas[1].Pages() != 3 || y.pages.Free() != 1 {
		t.Errorf("the other one: %d pages, %d are free", y.arenas[1].Pages(), y.pages.Free())
	}
}

// TestP11_1ReleaseOfAPageThatWasGivenBack: the first error is answered, what comes ahead of it in the order in which it was taken is given back, and nothing more; the arena itself is as it was.
func TestP11_1ReleaseOfAPageThatWasGivenBack(t *testing.T) {
	for _, x := range []struct {
		back int
		want api.Errno
		free []int
	}{
		{0, api.ErrNone, []int{0, 9}},                 // of the first run
		{1, api.ErrNone, []int{0, 1, 9}},              // the first page of a run
		{2, api.ErrNone, []int{0, 2, 9}},              // one in its middle
		{3, api.ErrNone, []int{0, 3, 9}},              // the last one
		{4, api.ErrNone, []int{0, 1, 2, 3, 4, 9}},     // of the next run
		{7, api.ErrNone, []int{0, 1, 2, 3, 4, 7, 9}},  // of the last run
		{8, api.ErrNone, []int{0, 1, 2, 3, 4, 8, 9}},  // the last page
		{6, api.OK, []int{0, 1, 2, 3, 4, 6, 7, 8, 9}}, // another arena's: no error of this one
	} {
		y := newYard(t, 10, 2)
		y.play([]step{{0, 5, 0, 0}, {0, 40, 16, 0}, {0, 16, 64, 0}, {1, 20, 80, 0}, {0, 17, 112, 0}})
		y.soil()
		y.back(x.back, 1)
		y.release(0, x.want)
		for page := range 10 {
			if free := slices.Contains(x.free, page); y.pages.Granted(page) == free {
				t.Errorf("page %d: free %v", page, !free)
			}
		}
		y.whole()
		// Behind an error, the page 0 is free: it is the first one that is met.
		y.release(0, x.want)
		y.whole()
		if t.Failed() {
			t.Fatalf("with the page %d given back", x.back)
		}
	}
}

// TestP11_1ReleaseWhenItIsThereAgain: behind an error, all can be given back as soon as all is granted again.
func TestP11_1ReleaseWhenItIsThereAgain(t *testing.T) {
	y := newYard(t, 4, 2)
	y.play([]step{{0, 20, 0, 0}, {0, 16, 32, 0}, {1, 3, 48, 0}})
	y.back(2, 1)
	y.release(0, api.ErrNone)
	y.whole()
	y.grant(3)
	y.release(0, api.OK)
	y.whole()
	y.play([]step{{0, 20, 0, 0}, {1, 13, 51, 0}, {0, 16, 32, 0}})
}
