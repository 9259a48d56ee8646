package ids_test

import (
	"math"
	"slices"
	"testing"

	"kraal/api"
	"kraal/ids"
)

// wrong are numbers that never live in a book that gave out fewer than a million.
var wrong = []int{
	0, -1, -2, -3, -1 << 32, -1<<32 + 1, math.MinInt, math.MinInt + 1, math.MinInt + 2,
	1 << 20, 1<<31 - 1, 1 << 31, 1 << 32, 1<<32 + 1, 1<<32 + 2, 1 << 60, 1<<60 + 1, 1<<62 + 1, math.MaxInt - 1, math.MaxInt,
}

func wantGive(t *testing.T, b *ids.Book, want int, wantErr api.Errno) {
	t.Helper()
	if id, e := b.Give(); id != want || e != wantErr {
		t.Errorf("Give: got %d, %v, want %d, %v", id, e, want, wantErr)
	}
}

func wantTake(t *testing.T, b *ids.Book, id int, want api.Errno) {
	t.Helper()
	if e := b.Take(id); e != want {
		t.Errorf("Take(%d): got %v, want %v", id, e, want)
	}
}

// wantBook: Last is as said, and just those numbers live that are said, as Lives and All tell it.
func wantBook(t *testing.T, b *ids.Book, last int, live ...int) {
	t.Helper()
	if b.Last() != last {
		t.Errorf("Last: got %d, want %d", b.Last(), last)
	}
	if got := b.All(); !slices.Equal(got, live) {
		t.Errorf("All: got %v, want %v", got, live)
	}
	for id := -2; id <= last+2; id++ {
		if b.Lives(id) != slices.Contains(live, id) {
			t.Errorf("Lives(%d): got %v", id, b.Lives(id))
		}
	}
	for _, id := range wrong {
		if b.Lives(id) {
			t.Errorf("Lives(%d): got true", id)
		}
	}
}

// given is a book of which at most so many live, that gave out the first n numbers.
func given(t *testing.T, most, n int) *ids.Book {
	t.Helper()
	b := ids.New(most)
	if b == nil {
		t.Fatalf("New(%d): got nil", most)
	}
	for i := range n {
		wantGive(t, b, i+1, api.OK)
	}
	return b
}

func TestP4_1Example(t *testing.T) {
	b := given(t, api.MaxLive, 2)
	wantTake(t, b, 1, api.OK)
	wantGive(t, b, 3, api.OK)
	wantBook(t, b, 3, 2, 3)
}

func TestP4_1NewBook(t *testing.T) {
	for _, most := range []int{0, 1, 2, api.MaxLive, 1 << 32, math.MaxInt, -1, math.MinInt} {
		b := given(t, most, 0)
		wantBook(t, b, 0)
		for _, id := range []int{1, 2, most} {
			wantTake(t, b, id, api.ErrNone)
		}
		wantBook(t, b, 0)
	}
}

func TestP4_1MixedOrder(t *testing.T) {
	b := given(t, 6, 5)
	wantBook(t, b, 5, 1, 2, 3, 4, 5)
	wantTake(t, b, 3, api.OK)
	wantBook(t, b, 5, 1, 2, 4, 5)
	wantTake(t, b, 1, api.OK)
	wantBook(t, b, 5, 2, 4, 5)
	wantGive(t, b, 6, api.OK)
	wantBook(t, b, 6, 2, 4, 5, 6)
	wantTake(t, b, 6, api.OK) // the last number itself
	wantBook(t, b, 6, 2, 4, 5)
	wantTake(t, b, 5, api.OK)
	wantBook(t, b, 6, 2, 4)
	wantGive(t, b, 7, api.OK)
	wantGive(t, b, 8, api.OK)
	wantBook(t, b, 8, 2, 4, 7, 8)
	wantTake(t, b, 4, api.OK)
	wantTake(t, b, 8, api.OK)
	wantTake(t, b, 2, api.OK)
	wantTake(t, b, 7, api.OK)
	wantBook(t, b, 8)
	wantGive(t, b, 9, api.OK)
	wantBook(t, b, 9, 9)
}

// TestP4_1AllRises: of many numbers, whichever were taken, and how often it is asked: no order of a map is to be seen.
func TestP4_1AllRises(t *testing.T) {
	const n = 1000
	b := given(t, n, n)
	var want []int
	for id := 1; id <= n; id++ {
		if id%3 == 0 || id%7 == 0 {
			wantTake(t, b, id, api.OK)
		} else {
			want = append(want, id)
		}
	}
	for range 20 {
		if got := b.All(); !slices.Equal(got, want) {
			t.Fatalf("All: got %v, want %v", got, want)
		}
	}
}

func TestP4_1NoneMayLive(t *testing.T) {
	for _, most := range []int{0, -1, -5, -1 << 32, -1<<32 + 1, math.MinInt, math.MinInt + 1} {
		b := given(t, most, 0)
		for range 3 {
			wantGive(t, b, 0, api.ErrFull)
			wantTake(t, b, 1, api.ErrNone)
			wantBook(t, b, 0)
		}
	}
}

func TestP4_1OneMayLive(t *testing.T) {
	b := given(t, 1, 0)
	for id := 1; id <= 5; id++ {
		wantGive(t, b, id, api.OK)
		wantGive(t, b, 0, api.ErrFull)
		wantBook(t, b, id, id)
		wantTake(t, b, id, api.OK)
		wantTake(t, b, id, api.ErrNone)
		wantBook(t, b, id)
	}
}

func TestP4_1JustFull(t *testing.T) {
	for most := 1; most <= api.MaxLive; most++ {
		b := given(t, most, most)
		all := b.All()
		for range 3 {
			wantGive(t, b, 0, api.ErrFull)
		}
		wantBook(t, b, most, all...)
		for _, id := range []int{0, -1, most + 1} {
			wantTake(t, b, id, api.ErrNone)
		}
		wantGive(t, b, 0, api.ErrFull) // a Take that took nothing makes no room
		wantTake(t, b, most/2+1, api.OK)
		wantBook(t, b, most, slices.Delete(all, most/2, most/2+1)...)
		wantGive(t, b, most+1, api.OK)
		wantGive(t, b, 0, api.ErrFull)
		if b.Last() != most+1 || len(b.All()) != most || !b.Lives(most+1) || b.Lives(most/2+1) {
			t.Errorf("of %d: Last %d, All %v", most, b.Last(), b.All())
		}
	}
}

// TestP4_1HugeBooks: a book of which a great many may live isn't full soon, and takes no room for those that don't.
func TestP4_1HugeBooks(t *testing.T) {
	for _, most := range []int{1<<31 - 1, 1 << 32, 1<<32 + 1, 1 << 60, math.MaxInt - 1, math.MaxInt} {
		b := given(t, most, 300)
		wantTake(t, b, 300, api.OK)
		wantGive(t, b, 301, api.OK)
		if all := b.All(); len(all) != 300 || all[299] != 301 || b.Last() != 301 {
			t.Errorf("of %d: %v", most, all)
		}
	}
}

func TestP4_1WrongTakes(t *testing.T) {
	b := given(t, 4, 4)
	wantTake(t, b, 2, api.OK)
	wantTake(t, b, 4, api.OK)
	for _, id := range append([]int{2, 4, 5, 6, 7}, wrong...) {
		wantTake(t, b, id, api.ErrNone)
		wantBook(t, b, 4, 1, 3)
	}
	wantGive(t, b, 5, api.OK) // asking for a number ahead of its time doesn't spoil it
	wantTake(t, b, 2, api.ErrNone)
	wantGive(t, b, 6, api.OK)
	wantGive(t, b, 0, api.ErrFull)
	wantBook(t, b, 6, 1, 3, 5, 6)
}

// TestP4_1LivesChangesNothing: to ask after numbers that don't live makes none of them live, nor the book fuller.
func TestP4_1LivesChangesNothing(t *testing.T) {
	b := given(t, 2, 1)
	for id := range 50 {
		b.Lives(id)
	}
	wantBook(t, b, 1, 1)
	wantGive(t, b, 2, api.OK)
	wantGive(t, b, 0, api.ErrFull)
	wantBook(t, b, 2, 1, 2)
}

func TestP4_1AllIsNewMemory(t *testing.T) {
	b := given(t, 8, 4)
	wantTake(t, b, 2, api.OK)
	first, second := b.All(), b.All()
	first[0] = 99
	_ = append(first[:1], 98, 97)
	_ = append(second, 96)
	wantBook(t, b, 4, 1, 3, 4)
	if !slices.Equal(second, []int{1, 3, 4}) {
		t.Error("two answers share memory", second)
	}
	wantGive(t, b, 5, api.OK)
	wantTake(t, b, 1, api.OK)
	wantBook(t, b, 5, 3, 4, 5)
	if !slices.Equal(second, []int{1, 3, 4}) {
		t.Error("an answer changed later", second)
	}
	empty := given(t, 1, 0)
	_ = append(empty.All(), 7)
	wantBook(t, empty, 0)
}

func TestP4_1BooksAreApart(t *testing.T) {
	a, b := given(t, 3, 2), given(t, 3, 3)
	wantTake(t, a, 1, api.OK)
	wantGive(t, a, 3, api.OK)
	wantGive(t, b, 0, api.ErrFull)
	wantBook(t, a, 3, 2, 3)
	wantBook(t, b, 3, 1, 2, 3)
}

// TestP4_2Never: whichever number goes, also the last one or all of them, the next one is one more than the last that was given out.
func TestP4_2Never(t *testing.T) {
	for n := 1; n <= 8; n++ {
		for gone := range 1 << n {
			b := given(t, n+1, n)
			var live []int
			for id := 1; id <= n; id++ {
				if gone>>(id-1)&1 == 1 {
					wantTake(t, b, id, api.OK)
				} else {
					live = append(live, id)
				}
			}
			wantBook(t, b, n, live...)
			wantGive(t, b, n+1, api.OK)
			wantBook(t, b, n+1, append(live, n+1)...)
		}
	}
}

// TestP4_2ManyTimes: a small book that is filled and emptied again and again, the last number first or the first one first.
func TestP4_2ManyTimes(t *testing.T) {
	for _, lastFirst := range []bool{false, true} {
		b := given(t, 3, 0)
		seen := map[int]bool{}
		for range 2000 {
			for range 4 { // the fourth one is refused
				if id, e := b.Give(); e == api.OK {
					if seen[id] {
						t.Fatalf("%d came again", id)
					}
					seen[id] = true
				}
			}
			all := b.All()
			if lastFirst {
				slices.Reverse(all)
			}
			for _, id := range all {
				wantTake(t, b, id, api.OK)
			}
		}
		if len(seen) != 6000 || b.Last() != 6000 || len(b.All()) != 0 {
			t.Errorf("%d numbers, Last %d, All %v", len(seen), b.Last(), b.All())
		}
	}
}

// plain is what a book should be, told in the simplest way: all numbers that were given out, each with whether it lives.
type plain struct {
	most  int
	lives []bool
}

func (p *plain) all() []int {
	var all []int
	for i, on := range p.lives {
		if on {
			all = append(all, i+1)
		}
	}
	return all
}

func (p *plain) give() (int, api.Errno) {
	if p.most < 0 || len(p.all()) >= p.most {
		return 0, api.ErrFull
	}
	p.lives = append(p.lives, true)
	return len(p.lives), api.OK
}

func (p *plain) take(id int) api.Errno {
	if id < 1 || id > len(p.lives) || !p.lives[id-1] {
		return api.ErrNone
	}
	p.lives[id-1] = false
	return api.OK
}

// step does one call on both: 0 is Give, any other number a Take of one less.
func (p *plain) step(t *testing.T, b *ids.Book, call int) {
	t.Helper()
	if call == 0 {
		want, e := p.give()
		wantGive(t, b, want, e)
		return
	}
	wantTake(t, b, call-1, p.take(call-1))
}

// TestP4_1EveryOrder holds every row of six calls, on books of a few sizes, against the plain book.
func TestP4_1EveryOrder(t *testing.T) {
	const calls, kinds = 6, 6
	rows := 1
	for range calls {
		rows *= kinds
	}
	for most := -1; most <= 3; most++ {
		for row := range rows {
			b, p := ids.New(most), &plain{most: most}
			for i, rest := 0, row; i < calls; i, rest = i+1, rest/kinds {
				p.step(t, b, rest%kinds)
				wantBook(t, b, len(p.lives), p.all()...)
			}
			if t.Failed() {
				t.Fatalf("most %d, row %d", most, row)
			}
		}
	}
}

// TestP4_1AnyOrder holds a long mixed row of calls against the plain book.
func TestP4_1AnyOrder(t *testing.T) {
	state := uint64(1)
	next := func(below int) int {
		state = state*6364136223846793005 + 1442695040888963407
		return int(state>>33) % below
	}
	for _, most := range []int{1, 5, 20} {
		b, p := ids.New(most), &plain{most: most}
		for step := range 1500 {
			call := 0
			if all := p.all(); next(2) == 0 && len(all) > 0 && next(4) > 0 {
				call = all[next(len(all))] + 1
			} else if next(4) == 0 {
				call = next(len(p.lives)+3) + 1
			}
			p.step(t, b, call)
			wantBook(t, b, len(p.lives), p.all()...)
			if t.Failed() {
				t.Fatalf("most %d, step %d, call %d", most, step, call)
			}
		}
	}
}
