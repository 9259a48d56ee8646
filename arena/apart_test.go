package arena_test

import (
	"testing"

	"kraal/api"
)

// wantApart: no word is of two things, of whichever arenas, each word of a thing is there, and in a page of its arena alone.
func (y *yard) wantApart() {
	y.Helper()
	holder := map[int]int{}
	for i, a := range y.arenas {
		for _, thing := range a.Things() {
			for at := thing.From; at < thing.From+thing.N; at++ {
				if other, ok := holder[at]; ok {
					y.Errorf("the word %d is of two things, of the arenas %d and %d", at, other, i)
				}
				holder[at] = i
				if at < 0 || at >= y.pages.Mem().Len() || !y.pages.Granted(at/16) {
					y.Errorf("the word %d of the arena %d isn't there", at, i)
				}
				for j, b := range y.arenas {
					if b.Has(at) != (i == j) {
						y.Errorf("the word %d of the arena %d: the arena %d has it, %v", at, i, j, b.Has(at))
					}
				}
			}
		}
	}
}

// wantNoPageTwice: no page is in two runs, of whichever arenas.
func (y *yard) wantNoPageTwice() {
	y.Helper()
	holder := map[int]int{}
	for i, a := range y.arenas {
		for _, r := range a.Runs() {
			for page := r.From; page < r.From+r.N; page++ {
				if other, ok := holder[page]; ok {
					y.Errorf("the page %d is in two runs, of the arenas %d and %d", page, other, i)
				}
				holder[page] = i
			}
		}
	}
	if len(holder) != y.pages.Len()-y.pages.Free() {
		y.Errorf("%d pages are in runs, %d granted", len(holder), y.pages.Len()-y.pages.Free())
	}
}

// TestP11_2Apart: in long mixed rows, things of all arenas that are there don't overlap, and nothing that is written into them is changed by what comes.
func TestP11_2Apart(t *testing.T) {
	for _, x := range []struct{ pages, arenas, most int }{{3, 2, 9}, {8, 3, 16}, {20, 4, 40}, {40, 2, 100}} {
		y := newYard(t, x.pages, x.arenas)
		m := mixed(x.most)
		for n := range 600 {
			i := m.next(x.arenas)
			if m.next(10) == 0 {
				y.release(i, api.OK)
			}
			size := 1 + m.next(x.most)
			if at, e := y.alloc(i, size); e == api.OK {
				for word := range size {
					y.write(at+word, uint64(n*1000+word+1))
				}
			}
			y.wantApart()
			y.wantNoPageTwice()
			y.wantPages()
			if t.Failed() {
				t.Fatalf("of %d pages, %d arenas, call %d", x.pages, x.arenas, n)
			}
		}
	}
}

// TestP11_2EveryPair: two things of every size up to three pages, of one arena and of two.
func TestP11_2EveryPair(t *testing.T) {
	for first := 1; first <= 49; first++ {
		for second := 1; second <= 49; second++ {
			for _, arenas := range []int{1, 2} {
				y := newYard(t, 8, arenas)
				y.soil()
				y.alloc(0, first)
				y.alloc(arenas-1, second)
				y.wantApart()
				y.wantNoPageTwice()
				y.wantPages()
				if t.Failed() {
					t.Fatalf("of the sizes %d, %d of %d arenas", first, second, arenas)
				}
			}
		}
	}
}

// wantZero: the words of a thing are 0.
func (y *yard) wantZero(at, size int) {
	y.Helper()
	for word := range size {
		if v, e := y.pages.Mem().Read(at + word); v != 0 || e != api.OK {
			y.Errorf("the word %d of the thing at %d: got %d, %v", word, at, v, e)
		}
	}
}

// TestP11_2NewWords: in a page that wasn't there they are 0, whatever was in it before.
func TestP11_2NewWords(t *testing.T) {
	for _, size := range []int{1, 2, 15, 16, 17, 31, 32, 33, 48, 100, 16384} {
		y := newYard(t, api.MaxPages, 2)
		y.soil()
		for i := range 2 {
			for range 2 {
				at, e := y.alloc(i, size)
				if e != api.OK {
					t.Fatalf("Alloc(%d): got %v", size, e)
				}
				y.wantZero(at, size)
				y.wantPages()
				y.soil() // written, by whoever has the thing, and by others
				y.release(i, api.OK)
			}
		}
	}
}

// TestP11_2NewWordsAmongOthers: small things in one page: the page is wiped when it is taken, and what stands in it then stays.
func TestP11_2NewWordsAmongOthers(t *testing.T) {
	y := newYard(t, 3, 2)
	y.soil()
	y.want(0, 5, 0, api.OK)
	y.wantZero(0, 16)
	for word := range 5 {
		y.write(word, 9)
	}
	y.want(0, 6, 5, api.OK)
	y.wantZero(5, 11)
	y.want(1, 5, 16, api.OK)
	y.want(0, 5, 11, api.OK)
	y.wantZero(11, 5)
	for word := range 5 {
		if v, _ := y.pages.Mem().Read(word); v != 9 {
			t.Errorf("the word %d: got %d, want 9", word, v)
		}
	}
	y.whole()
}

// TestP11_2WrittenAndReleased: words that one arena wrote are 0 when another one has their page.
func TestP11_2WrittenAndReleased(t *testing.T) {
	y := newYard(t, 4, 2)
	y.play([]step{{0, 40, 0, 0}, {1, 3, 48, 0}})
	y.soil()
	y.release(0, api.OK)
	y.wantPages() // the words of free pages stay as they are
	at, _ := y.alloc(1, 20)
	y.wantZero(at, 20)
	at, _ = y.alloc(0, 7)
	y.wantZero(at, 7)
	y.wantPages()
	y.wantApart()
}

// TestP11_2RefusedWritesNothing: what is refused changes no word.
func TestP11_2RefusedWritesNothing(t *testing.T) {
	y := laid(t, ".#.#", 1)
	y.soil()
	for _, size := range []int{17, 32, 33, 64, 16384, 0, -1, 16385} {
		if _, e := y.alloc(0, size); e == api.OK {
			t.Errorf("Alloc(%d): got OK", size)
		}
		y.wantPages()
	}
	y.whole()
}
