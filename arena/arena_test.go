package arena_test

import (
	"math"
	"reflect"
	"slices"
	"strings"
	"testing"

	"kraal/api"
	"kraal/arena"
	"kraal/pages"
)

func TestP11_1Example(t *testing.T) {
	p, _ := pages.New(4)
	one, other := arena.New(p), arena.New(p)
	for i, x := range []struct {
		a        *arena.Arena
		size, at int
	}{{one, 10, 0}, {other, 10, 16}, {one, 6, 10}} {
		if at, e := x.a.Alloc(x.size); at != x.at || e != api.OK {
			t.Errorf("thing %d: got %d, %v, want %d", i, at, e, x.at)
		}
	}
}

// TestP11_1Known: what all calls answer, written out.
func TestP11_1Known(t *testing.T) {
	p, _ := pages.New(7)
	a := arena.New(p)
	for i, x := range []struct{ size, at int }{{10, 0}, {40, 16}, {6, 10}, {16, 64}, {17, 80}} {
		if at, e := a.Alloc(x.size); at != x.at || e != api.OK {
			t.Errorf("thing %d: got %d, %v, want %d", i, at, e, x.at)
		}
	}
	// Runs that are side by side were taken one by one, and are told so.
	if l, want := a.Runs(), []api.Run{{From: 0, N: 1}, {From: 1, N: 3}, {From: 4, N: 1}, {From: 5, N: 2}}; !slices.Equal(l, want) {
		t.Errorf("Runs: got %v, want %v", l, want)
	}
	if l, want := a.Things(), []api.Run{{From: 0, N: 10}, {From: 16, N: 40}, {From: 10, N: 6}, {From: 64, N: 16}, {From: 80, N: 17}}; !slices.Equal(l, want) {
		t.Errorf("Things: got %v, want %v", l, want)
	}
	if a.Pages() != 7 || p.Free() != 0 || !a.Has(0) || !a.Has(111) || a.Has(112) || a.Has(-1) {
		t.Errorf("Pages %d, Free %d, Has %v, %v, %v, %v", a.Pages(), p.Free(), a.Has(0), a.Has(111), a.Has(112), a.Has(-1))
	}
	if a.Fits(1) || a.Release() != api.OK || p.Free() != 7 || a.Pages() != 0 || a.Has(0) || !a.Fits(112) || a.Fits(113) {
		t.Error("Release")
	}
}

// TestP11_1OfNothing: an arena of which nothing was placed has nothing, and may be released as often as one likes.
func TestP11_1OfNothing(t *testing.T) {
	for _, text := range []string{".", "#", "...", ".#.", "###"} {
		y := laid(t, text, 2)
		y.soil()
		y.whole()
		for range 3 {
			y.release(0, api.OK)
			y.whole()
		}
		if a := y.arenas[0]; len(a.Runs()) != 0 || len(a.Things()) != 0 || a.Pages() != 0 || a.Has(0) {
			t.Errorf("%s: it has something", text)
		}
	}
}

const full = api.ErrFull

// TestP11_1SmallInARow: of three pages, small things of one arena, and of two in turns.
func TestP11_1SmallInARow(t *testing.T) {
	for _, row := range [][]step{
		{{0, 10, 0, 0}, {0, 6, 10, 0}, {0, 1, 16, 0}, {0, 15, 17, 0}, {0, 16, 32, 0}, {0, 1, 0, full}},       // filled just to its end
		{{0, 10, 0, 0}, {0, 7, 16, 0}, {0, 6, 23, 0}, {0, 4, 32, 0}, {0, 13, 0, full}, {0, 12, 36, 0}},       // what is left of a page that was left behind stays so
		{{0, 15, 0, 0}, {0, 1, 15, 0}, {0, 15, 16, 0}, {0, 2, 32, 0}, {0, 15, 0, full}, {0, 14, 34, 0}},      // one word left
		{{0, 16, 0, 0}, {0, 16, 16, 0}, {0, 16, 32, 0}, {0, 16, 0, full}, {0, 1, 0, full}},                   // each its own page
		{{0, 1, 0, 0}, {0, 1, 1, 0}, {0, 1, 2, 0}, {0, 13, 3, 0}, {0, 16, 16, 0}, {0, 3, 32, 0}},             // the smallest ones
		{{0, 1, 0, 0}, {1, 1, 16, 0}, {0, 15, 1, 0}, {1, 15, 17, 0}, {0, 1, 32, 0}, {1, 1, 0, full}},         // in turns
		{{0, 9, 0, 0}, {1, 9, 16, 0}, {0, 8, 32, 0}, {1, 7, 25, 0}, {1, 8, 0, full}, {0, 8, 40, 0}},          // what is left of the one's isn't the other's
		{{1, 16, 0, 0}, {0, 16, 16, 0}, {1, 16, 32, 0}, {0, 16, 0, full}, {1, 16, 0, full}, {0, 1, 0, full}}, // full for both
	} {
		newYard(t, 3, 2).play(row)
	}
}

// TestP11_1WordByWord: things of one word fill page behind page.
func TestP11_1WordByWord(t *testing.T) {
	y := newYard(t, 13, 1)
	for i := range 13 * 16 {
		y.want(0, 1, i, api.OK)
		y.whole()
	}
	y.want(0, 1, 0, api.ErrFull)
	y.whole()
}

// TestP11_1LargeAmongSmall: of seven pages, large things ahead of, between and behind small ones, of one arena and of two.
func TestP11_1LargeAmongSmall(t *testing.T) {
	for _, row := range [][]step{
		{{0, 20, 0, 0}, {0, 4, 32, 0}, {0, 12, 36, 0}, {0, 1, 48, 0}},                                                                   // ahead: what is left of its last page isn't for small ones
		{{0, 4, 0, 0}, {0, 20, 16, 0}, {0, 12, 4, 0}, {0, 1, 48, 0}},                                                                    // between
		{{0, 4, 0, 0}, {0, 20, 16, 0}, {0, 13, 48, 0}, {0, 4, 64, 0}},                                                                   // between, where too few are left
		{{0, 16, 0, 0}, {0, 17, 16, 0}, {0, 15, 48, 0}, {0, 32, 64, 0}, {0, 1, 63, 0}},                                                  // behind a page that is just filled
		{{0, 17, 0, 0}, {0, 33, 32, 0}, {0, 32, 80, 0}, {0, 1, 0, full}, {0, 17, 0, full}},                                              // large ones alone
		{{0, 3, 0, 0}, {1, 33, 16, 0}, {0, 17, 64, 0}, {1, 3, 96, 0}, {0, 13, 3, 0}, {1, 13, 99, 0}, {0, 1, 0, full}},                   // things of the one between the other's pages
		{{1, 32, 0, 0}, {0, 5, 32, 0}, {1, 32, 48, 0}, {0, 32, 80, 0}, {0, 17, 0, full}, {1, 1, 0, full}, {0, 11, 37, 0}},               // full but for what is left
		{{0, 48, 0, 0}, {1, 1, 48, 0}, {0, 49, 0, full}, {0, 48, 64, 0}, {1, 16, 0, full}, {1, 15, 49, 0}, {1, 1, 0, full}},             // a large one that is refused, and one that isn't
		{{0, 112, 0, 0}, {0, 1, 0, full}, {0, 112, 0, full}, {1, 1, 0, full}, {1, 112, 0, full}, {0, 0, 0, 1}, {1, 16385, 0, 1}},        // all at once
		{{1, 113, 0, full}, {1, 112, 0, 0}, {1, 113, 0, full}, {0, -112, 0, 1}, {0, 1, 0, full}, {1, 16384, 0, full}, {0, 17, 0, full}}, // one word more than there are
	} {
		newYard(t, 7, 2).play(row)
	}
}

// TestP11_1EverySize: of every size that there is, and some beyond, of an arena of nothing and of one with a page of small things; each time released, so that it is as at first.
func TestP11_1EverySize(t *testing.T) {
	y := newYard(t, api.MaxPages, 1)
	for _, first := range []int{0, 3, 16} {
		for size := -40; size <= 16384+40; size++ {
			if first > 0 {
				if size > 100 && size%37 != 0 {
					continue // each one is asked for of an arena of nothing
				}
				y.want(0, first, 0, api.OK)
			}
			y.alloc(0, size)
			y.wantLists(0)
			if y.pages.Free() != 1024-y.plains[0].pages() {
				t.Errorf("%d pages are free", y.pages.Free())
			}
			y.release(0, api.OK)
			y.wantLists(0)
			if t.Failed() {
				t.Fatalf("of the size %d behind %d", size, first)
			}
		}
		y.whole()
	}
}

// TestP11_1EdgeSizes: how many pages things take of an arena of nothing.
func TestP11_1EdgeSizes(t *testing.T) {
	for size, n := range map[int]int{1: 1, 2: 1, 15: 1, 16: 1, 17: 2, 31: 2, 32: 2, 33: 3, 48: 3, 49: 4, 16368: 1023, 16369: 1024, 16384: 1024} {
		y := newYard(t, api.MaxPages, 2)
		y.want(0, size, 0, api.OK)
		if l := y.arenas[0].Runs(); !slices.Equal(l, []api.Run{{From: 0, N: n}}) || y.arenas[0].Pages() != n || y.pages.Free() != 1024-n {
			t.Errorf("size %d: got the runs %v", size, l)
		}
		y.whole()
		if n < 1024 {
			y.want(1, 1, 16*n, api.OK)
			y.whole()
		}
	}
}

// TestP11_1AllWords: a thing of as many words as all pages have, and one of one more.
func TestP11_1AllWords(t *testing.T) {
	for _, n := range []int{1, 2, 3, 7, 1022, 1023, 1024} {
		y := newYard(t, n, 2)
		more := api.ErrFull
		if n == 1024 {
			more = api.ErrArg
		}
		y.want(0, 16*n+1, 0, more)
		y.whole()
		y.want(0, 16*n, 0, api.OK)
		y.whole()
		for i := range 2 {
			y.want(i, 1, 0, api.ErrFull)
			y.want(i, 16*n, 0, api.ErrFull)
			y.want(i, 16*n+1, 0, more)
		}
		y.whole()
		y.release(0, api.OK)
		y.want(1, 16*n, 0, api.OK)
		y.whole()
	}
}

// TestP11_1LastPage: what stands in the last page, up to the last word.
func TestP11_1LastPage(t *testing.T) {
	y := newYard(t, api.MaxPages, 2)
	y.want(0, 1022*16, 0, api.OK)
	y.want(1, 15, 16352, api.OK)
	y.want(0, 9, 16368, api.OK)
	y.want(0, 6, 16377, api.OK)
	y.want(1, 2, 0, api.ErrFull)
	y.want(0, 1, 16383, api.OK)
	y.want(1, 1, 16367, api.OK)
	y.want(0, 1, 0, api.ErrFull)
	y.want(1, 1, 0, api.ErrFull)
	y.whole()
	if !y.arenas[0].Has(16383) || y.arenas[0].Has(16384) || y.arenas[0].Has(16367) || !y.arenas[1].Has(16367) || y.arenas[1].Has(16383) {
		t.Error("Has")
	}
}

// TestP11_1FreeInARow: a large thing stands in the first row of free pages that is long enough; one too short by a page isn't, nor are as many that aren't in a row.
func TestP11_1FreeInARow(t *testing.T) {
	for _, x := range []struct {
		text string
		step
	}{
		{"#..#", step{0, 32, 16, 0}},
		{"#..#", step{0, 33, 0, full}},
		{"#..#...#", step{0, 33, 64, 0}},
		{"#..#...#", step{0, 48, 64, 0}},
		{"#..#...#", step{0, 49, 0, full}},
		{"#..#...#", step{0, 32, 16, 0}},
		{"#..#...#", step{0, 17, 16, 0}},
		{"#..#...#", step{0, 16, 16, 0}},
		{".#.#.#.#", step{0, 17, 0, full}},
		{".#.#.#.#", step{0, 16, 0, 0}},
		{".#.#.#..", step{0, 17, 96, 0}},
		{"..##...#....", step{0, 50, 128, 0}},
		{"..##...#....", step{0, 64, 128, 0}},
		{"..##...#....", step{0, 65, 0, full}},
		{"########", step{0, 1, 0, full}},
		{"########", step{0, 17, 0, full}},
		{"#######.", step{0, 1, 112, 0}},
		{"#######.", step{0, 17, 0, full}},
		{".", step{0, 16, 0, 0}},
		{".", step{0, 17, 0, full}},
	} {
		y := laid(t, x.text, 2)
		y.soil()
		y.play([]step{x.step})
		y.alloc(1, 16)
		y.alloc(0, 2)
		y.whole()
		if t.Failed() {
			t.Fatalf("of the pages %s, %v", x.text, x.step)
		}
	}
}

// TestP11_1EveryLand: whichever pages are free, a thing of every number of pages, and one word more.
func TestP11_1EveryLand(t *testing.T) {
	const n = 7
	for marks := range 1 << n {
		text := []byte(strings.Repeat(".", n))
		for page := range n {
			if marks>>page&1 == 1 {
				text[page] = '#'
			}
		}
		for own := range n + 1 {
			y := laid(t, string(text), 1)
			y.alloc(0, 16*own)
			y.alloc(0, 16*own+1)
			y.alloc(0, 1)
			y.whole()
		}
		if t.Failed() {
			t.Fatalf("of the pages %s", text)
		}
	}
}

// TestP11_1Has: each word of the pages that the arena took, and no other one.
func TestP11_1Has(t *testing.T) {
	y := laid(t, "#..#.....#", 2)
	y.alloc(0, 20) // pages 1, 2
	y.alloc(1, 5)  // page 4
	y.alloc(0, 1)  // page 5
	y.alloc(1, 33) // pages 6, 7, 8
	for at := -50; at <= 250; at++ {
		if got, want := y.arenas[0].Has(at), at >= 16 && at <= 47 || at >= 80 && at <= 95; got != want {
			t.Errorf("the one: Has(%d): got %v", at, got)
		}
		if got, want := y.arenas[1].Has(at), at >= 64 && at <= 79 || at >= 96 && at <= 143; got != want {
			t.Errorf("the other: Has(%d): got %v", at, got)
		}
	}
	y.whole()
	// With all pages there are, too, no word below the first one is there, and none behind the last one.
	y = newYard(t, api.MaxPages, 1)
	y.alloc(0, 16384)
	for _, at := range wrongWords {
		if y.arenas[0].Has(at) {
			t.Errorf("of all pages: Has(%d): got true", at)
		}
	}
	if !y.arenas[0].Has(0) || !y.arenas[0].Has(16383) {
		t.Error("of all pages: the first word, or the last one")
	}
}

// behindWhat are rows of things of two arenas behind which wrong calls are made, of five pages.
func behindWhat() [][]step {
	return [][]step{
		{},
		{{0, 1, 0, 0}},
		{{0, 16, 0, 0}},
		{{0, 5, 0, 0}, {0, 11, 5, 0}},
		{{0, 40, 0, 0}},
		{{0, 5, 0, 0}, {0, 40, 16, 0}},
		{{0, 40, 0, 0}, {0, 5, 48, 0}},
		{{1, 5, 0, 0}, {0, 5, 16, 0}, {1, 20, 32, 0}},
		{{0, 80, 0, 0}},
		{{0, 5, 0, 0}, {0, 64, 16, 0}},
		{{1, 64, 0, 0}, {0, 15, 64, 0}},
		{{1, 80, 0, 0}},
	}
}

// wantGoesOn: things that are placed next stand as they do of the plain arenas, to which nothing wrong was told.
func (y *yard) wantGoesOn() {
	y.Helper()
	for _, size := range []int{2, 20, 9, 1, 5} {
		for i := range y.arenas {
			y.alloc(i, size)
			y.whole()
		}
	}
}

// TestP11_1WrongSizes: they are refused, where there is no room as well (R2), and nothing is changed.
func TestP11_1WrongSizes(t *testing.T) {
	for _, row := range behindWhat() {
		y := newYard(t, 5, 2)
		y.play(row)
		y.soil()
		for _, size := range wrongSizes {
			y.want(0, size, 0, api.ErrArg)
			y.wantLists(0)
		}
		y.whole()
		y.wantGoesOn()
		if t.Failed() {
			t.Fatalf("behind %v", row)
		}
	}
}

// TestP11_1FullChangesNothing: behind what is refused for want of room all is as it was, the page of small things too, and a smaller one is placed where it would have been.
func TestP11_1FullChangesNothing(t *testing.T) {
	for _, row := range behindWhat() {
		y := newYard(t, 5, 2)
		y.play(row)
		y.soil()
		for _, size := range []int{81, 96, 97, 1000, 16383, 16384} {
			y.want(0, size, 0, api.ErrFull)
			y.want(1, size, 0, api.ErrFull)
			y.whole()
		}
		for size := 80; size >= 0; size-- {
			if y.plains[0].fits(y.land, size) == api.ErrFull {
				y.want(0, size, 0, api.ErrFull)
				y.wantPages()
				y.wantLists(0)
			}
		}
		y.whole()
		y.wantGoesOn()
		if t.Failed() {
			t.Fatalf("behind %v", row)
		}
	}
}

// TestP11_1SmallIsFull: a small thing that is refused leaves the page of small things as it was.
func TestP11_1SmallIsFull(t *testing.T) {
	for used := 1; used <= 16; used++ {
		y := newYard(t, 1, 2)
		y.want(0, used, 0, api.OK)
		for size := 17 - used; size <= 17; size++ {
			y.want(0, size, 0, api.ErrFull)
			y.want(1, size, 0, api.ErrFull)
		}
		y.whole()
		if used < 16 {
			y.want(0, 16-used, used, api.OK)
		}
		y.want(0, 1, 0, api.ErrFull)
		y.whole()
	}
}

// TestP11_1NilPages: of a nil p there is no room for anything; wrong sizes are told first.
func TestP11_1NilPages(t *testing.T) {
	none, e := pages.New(0)
	if none != nil || e != api.ErrArg {
		t.Fatalf("pages.New(0): got %v, %v", none, e)
	}
	for _, p := range []*pages.Pages{nil, none} {
		a := arena.New(p)
		if a == nil {
			t.Fatal("New: got nil")
		}
		for range 2 {
			for _, size := range []int{1, 2, 15, 16, 17, 32, 33, 16383, 16384} {
				if at, e := a.Alloc(size); at != 0 || e != api.ErrFull || a.Fits(size) {
					t.Errorf("size %d: got %d, %v, Fits %v", size, at, e, a.Fits(size))
				}
			}
			for _, size := range wrongSizes {
				if at, e := a.Alloc(size); at != 0 || e != api.ErrArg || a.Fits(size) {
					t.Errorf("size %d: got %d, %v, Fits %v", size, at, e, a.Fits(size))
				}
			}
			for _, at := range append([]int{0, 1, 15, 16, 16383}, wrongWords...) {
				if a.Has(at) {
					t.Errorf("Has(%d): got true", at)
				}
			}
			if len(a.Runs()) != 0 || len(a.Things()) != 0 || a.Pages() != 0 {
				t.Errorf("got %v, %v, %d pages", a.Runs(), a.Things(), a.Pages())
			}
			if e := a.Release(); e != api.OK {
				t.Errorf("Release: got %v", e)
			}
		}
	}
}

// TestP11_1NoFreePages: where somebody else has them all, there is no room; as soon as one is given back, there is.
func TestP11_1NoFreePages(t *testing.T) {
	y := laid(t, "####", 2)
	y.soil()
	for _, size := range []int{1, 16, 17, 64, 65, 16384} {
		y.want(0, size, 0, api.ErrFull)
	}
	y.whole()
	y.release(0, api.OK)
	y.back(2, 1)
	y.want(0, 17, 0, api.ErrFull)
	y.want(1, 7, 32, api.OK)
	y.want(0, 1, 0, api.ErrFull)
	y.want(1, 9, 39, api.OK)
	y.whole()
}

// TestP11_1EveryRow holds every row of calls of two arenas, of small, large and wrong things and of Release, against plain ones.
func TestP11_1EveryRow(t *testing.T) {
	const release = -100
	calls := []int{release, 0, 1, 7, 9, 16, 17, 33}
	var hand func(row []int, n int)
	hand = func(row []int, n int) {
		if n > 0 {
			for call := range 2 * len(calls) {
				hand(append(row, call), n-1)
			}
			return
		}
		y := newYard(t, 4, 2)
		for _, call := range row {
			if i, size := call%2, calls[call/2]; size == release {
				y.release(i, api.OK)
			} else {
				y.alloc(i, size)
			}
		}
		for i := range 2 {
			y.wantLists(i)
		}
		y.wantPages()
		if t.Failed() {
			t.Fatalf("of the row %v", row)
		}
	}
	hand(nil, 4)
}

// TestP11_1AnyOrder holds long mixed rows of calls of several arenas, and of somebody else who takes pages too, against plain ones.
func TestP11_1AnyOrder(t *testing.T) {
	for _, x := range []struct{ pages, arenas, most int }{{1, 2, 16}, {5, 1, 20}, {9, 3, 16}, {12, 2, 40}, {40, 5, 60}, {64, 4, 300}, {1024, 3, 4000}} {
		y := newYard(t, x.pages, x.arenas)
		m := mixed(x.pages)
		var others []int
		for range 700 {
			i := m.next(x.arenas)
			switch m.next(12) {
			case 0:
				y.release(i, api.OK)
			case 1:
				y.alloc(i, wrongSizes[m.next(len(wrongSizes))])
			case 2:
				y.alloc(i, len(y.plains[i].left)+m.next(2))
			case 3:
				if page, ok := y.land.room(1); ok {
					y.grant(1)
					others = append(others, page)
				}
			case 4:
				if len(others) > 0 {
					y.back(others[0], 1)
					others = others[1:]
				}
			case 5:
				y.write(m.next(16*x.pages), 7)
			default:
				y.alloc(i, 1+m.next(x.most))
			}
			if x.pages < 100 || m.next(20) == 0 {
				y.whole()
			}
			if t.Failed() {
				t.Fatalf("of %d pages, %d arenas", x.pages, x.arenas)
			}
		}
	}
}

// TestP11_1AskingChangesNothing: calls that ask may be made as often as one likes.
func TestP11_1AskingChangesNothing(t *testing.T) {
	for _, row := range behindWhat() {
		y := newYard(t, 5, 2)
		y.play(row)
		y.soil()
		for range 3 {
			y.whole()
		}
	}
}

// TestP11_1AnswersAreNew: who writes into a list that was answered, or behind its end, changes nothing (R3); nor does it change when the arena does.
func TestP11_1AnswersAreNew(t *testing.T) {
	y := newYard(t, 30, 1)
	for n := range 12 {
		for _, ask := range []func() []api.Run{y.arenas[0].Runs, y.arenas[0].Things} {
			l := ask()
			was := slices.Clone(l)
			for i := range l {
				l[i] = api.Run{From: 29, N: -1}
			}
			_ = append(l, api.Run{From: 77, N: 77})
			if again := ask(); !slices.Equal(again, was) {
				t.Errorf("behind writing: got %v, want %v", again, was)
			}
		}
		runs, things := y.arenas[0].Runs(), y.arenas[0].Things()
		wasRuns, wasThings := slices.Clone(runs), slices.Clone(things)
		y.alloc(0, 1+n*5%23)
		y.alloc(0, 16)
		if !slices.Equal(runs, wasRuns) || !slices.Equal(things, wasThings) {
			t.Errorf("behind Alloc: got %v, %v, want %v, %v", runs, things, wasRuns, wasThings)
		}
		y.whole()
	}
	runs, things := y.arenas[0].Runs(), y.arenas[0].Things()
	wasRuns, wasThings := slices.Clone(runs), slices.Clone(things)
	y.release(0, api.OK)
	for range 5 {
		y.alloc(0, 3)
		y.alloc(0, 18)
	}
	if !slices.Equal(runs, wasRuns) || !slices.Equal(things, wasThings) {
		t.Errorf("behind Release: got %v, %v, want %v, %v", runs, things, wasRuns, wasThings)
	}
	y.whole()
}

// TestP11_1OnlyTheListedCalls: nothing else changes an arena, or tells of it.
func TestP11_1OnlyTheListedCalls(t *testing.T) {
	var got []string
	for m := range reflect.TypeFor[*arena.Arena]().Methods() {
		got = append(got, m.Name)
	}
	want := []string{"Alloc", "Fits", "Has", "Pages", "Release", "Runs", "Things"}
	if slices.Sort(got); !slices.Equal(got, want) {
		t.Errorf("calls: got %v, want %v", got, want)
	}
	for i := range reflect.TypeFor[arena.Arena]().NumField() {
		if f := reflect.TypeFor[arena.Arena]().Field(i); f.IsExported() {
			t.Errorf("the field %s is open to everybody", f.Name)
		}
	}
}

// TestP11_1HugeIsNotCutShort: a size isn't taken for the one that its low bits are.
func TestP11_1HugeIsNotCutShort(t *testing.T) {
	y := newYard(t, 3, 1)
	y.want(0, 3, 0, api.OK)
	for _, size := range []int{1 << 32, 1<<32 + 3, 1<<16 + 3, 1<<62 + 3, math.MinInt + 3, -1<<32 + 3} {
		y.want(0, size, 0, api.ErrArg)
		y.whole()
	}
	y.want(0, 3, 3, api.OK)
}
