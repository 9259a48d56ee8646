package owner_test

import (
	"math"
	"slices"
	"testing"

	"kraal/api"
	"kraal/owner"
)

// away are numbers at which neither a page nor a word of any map stands, and of which none is an owner's here.
var away = []int{
	-1, -2, -15, -16, -17, -31, -32, -33, -1 << 32, -1<<32 + 1, math.MinInt, math.MinInt + 1, math.MinInt + 16, math.MinInt + 32,
	api.MaxWords, api.MaxWords + 1, 1<<31 - 1, 1 << 31, 1 << 32, 1<<32 + 1, 1<<32 + 32, 1 << 36, 1 << 37, 1 << 60, 1<<62 + 1, math.MaxInt - 15, math.MaxInt - 1, math.MaxInt,
}

// plain is what a map should be, told in the simplest way: of each page, whose it is.
type plain []int

func (p plain) stands(r api.Run) bool {
	return r.From >= 0 && r.N >= 0 && r.From <= 9999 && r.N <= 9999 && r.From+r.N <= len(p)
}

func (p plain) set(r api.Run, of int) api.Errno {
	if of < 0 {
		return api.ErrArg
	}
	if !p.stands(r) {
		return api.ErrRange
	}
	for page := r.From; page < r.From+r.N; page++ {
		p[page] = of
	}
	return api.OK
}

func (p plain) page(page int) int {
	for at, of := range p {
		if at == page {
			return of
		}
	}
	return 0
}

// of: a page whose forerunner isn't the owner's too begins a run.
func (p plain) of(of int) []api.Run {
	var runs []api.Run
	for page, whose := range p {
		if whose != of || of < 1 {
			continue
		}
		if page == 0 || p[page-1] != of {
			runs = append(runs, api.Run{From: page})
		}
		runs[len(runs)-1].N++
	}
	return runs
}

func (p plain) owned() int {
	n := 0
	for _, of := range p {
		n += min(of, 1)
	}
	return n
}

// newMap is a map, and what it should be.
func newMap(t *testing.T, pages int) (*owner.Map, plain) {
	t.Helper()
	m := owner.New(pages)
	if m == nil {
		t.Fatalf("New(%d): got nil", pages)
	}
	return m, make(plain, pages)
}

func wantSet(t *testing.T, m *owner.Map, r api.Run, of int, want api.Errno) {
	t.Helper()
	if e := m.Set(r, of); e != want {
		t.Errorf("Set(%v, %d): got %v, want %v", r, of, e, want)
	}
}

func wantOf(t *testing.T, m *owner.Map, of int, want ...api.Run) {
	t.Helper()
	if got := m.Of(of); !slices.Equal(got, want) {
		t.Errorf("Of(%d): got %v, want %v", of, got, want)
	}
}

// wantMap: all that asks answers as of the plain map, of these owners and of those that have a page, and just beyond the edges too.
func wantMap(t *testing.T, m *owner.Map, p plain, owners ...int) {
	t.Helper()
	for page := -2; page <= len(p)+33; page++ {
		want := p.page(page)
		if got := m.Page(page); got != want {
			t.Errorf("Page(%d): got %d, want %d", page, got, want)
		}
		for _, i := range []int{0, 1, 7, api.PageWords - 1} {
			if at := page*api.PageWords + i; m.Word(at) != want {
				t.Errorf("Word(%d): got %d, want %d", at, m.Word(at), want)
			}
		}
	}
	owners = append(owners, p...)
	slices.Sort(owners)
	for _, of := range slices.Compact(owners) {
		wantOf(t, m, of, p.of(of)...)
	}
	if got, want := m.Owned(), p.owned(); got != want {
		t.Errorf("Owned: got %d, want %d", got, want)
	}
}

// change sets pages in a map and in the plain one, and holds them against each other.
func change(t *testing.T, m *owner.Map, p plain, from, n, of int) {
	t.Helper()
	r := api.Run{From: from, N: n}
	wantSet(t, m, r, of, p.set(r, of))
	wantMap(t, m, p, 0, of)
	if t.Failed() {
		t.Fatalf("behind Set(%v, %d)", r, of)
	}
}

func TestP6_1Example(t *testing.T) {
	m, _ := newMap(t, 10)
	wantSet(t, m, api.Run{From: 2, N: 2}, 7, api.OK)
	if m.Word(40) != 7 || m.Word(64) != 0 {
		t.Errorf("got %d, %d", m.Word(40), m.Word(64))
	}
	wantOf(t, m, 7, api.Run{From: 2, N: 2})
}

// TestP6_1Sizes: a map has just so many pages: the last one can be set, the one behind it can't.
func TestP6_1Sizes(t *testing.T) {
	sizes := map[int]int{
		-1: 0, -32: 0, -1 << 32: 0, -1<<32 + 5: 0, math.MinInt: 0, math.MinInt + 7: 0,
		api.MaxPages + 1: api.MaxPages, api.MaxPages + 32: api.MaxPages, 5000: api.MaxPages, 1 << 32: api.MaxPages, 1<<32 + 5: api.MaxPages, math.MaxInt: api.MaxPages,
	}
	for _, pages := range []int{0, 1, 2, 31, 32, 33, 63, 64, 65, 70, api.MaxPages - 33, api.MaxPages - 32, api.MaxPages - 1, api.MaxPages} {
		sizes[pages] = pages
	}
	for asked, pages := range sizes {
		m := owner.New(asked)
		if m == nil {
			t.Fatalf("New(%d): got nil", asked)
		}
		p := make(plain, pages)
		wantMap(t, m, p, 0, 1, 2)
		wantSet(t, m, api.Run{N: pages + 1}, 1, api.ErrRange)
		wantSet(t, m, api.Run{From: pages, N: 1}, 1, api.ErrRange)
		wantSet(t, m, api.Run{From: pages + 1}, 1, api.ErrRange)
		wantMap(t, m, p, 0, 1)
		change(t, m, p, pages, 0, 1)
		change(t, m, p, 0, pages, 1)
		if pages > 0 {
			wantOf(t, m, 1, api.Run{N: pages})
			change(t, m, p, pages-1, 1, 2)
			change(t, m, p, 0, pages, 0)
			change(t, m, p, pages-1, 1, 3)
		}
	}
}

func TestP6_1NoPages(t *testing.T) {
	for _, pages := range []int{0, -1, math.MinInt} {
		m := owner.New(pages)
		for _, of := range []int{0, 1, 5, math.MaxInt} {
			wantSet(t, m, api.Run{}, of, api.OK)
			wantSet(t, m, api.Run{N: 1}, of, api.ErrRange)
			wantSet(t, m, api.Run{From: 1}, of, api.ErrRange)
			wantSet(t, m, api.Run{From: -1, N: 1}, of, api.ErrRange)
			wantMap(t, m, plain{}, of)
		}
		wantSet(t, m, api.Run{}, -1, api.ErrArg)
		wantSet(t, m, api.Run{N: 1}, -1, api.ErrArg)
		wantMap(t, m, plain{}, -1, 0, 1)
	}
}

// TestP6_1MixedOrder: owners over one another, and back to nobody.
func TestP6_1MixedOrder(t *testing.T) {
	for _, pages := range []int{12, 44, 100, api.MaxPages} {
		m, p := newMap(t, pages)
		for _, x := range [][3]int{
			{2, 3, 7}, {8, 2, 4}, {5, 3, 7}, // 7's two runs are one
			{5, 3, 7}, {3, 2, 7}, // set anew
			{4, 1, 4}, {0, 3, 4}, // into the midst, and over the beginning
			{6, 4, 9}, {1, 8, 2}, // over the end, and over all of one
			{1, 8, 2}, {0, 1, 2}, {9, 1, 2}, // 4 has none left
			{4, 1, 0}, {4, 1, 0}, {0, 2, 0}, {8, 4, 0}, {4, 1, 2}, // back to nobody, and again
			{0, 12, 0}, {0, 12, 0},
			{11, 1, math.MaxInt}, {10, 1, math.MaxInt - 1}, {9, 1, 1 << 32}, {8, 1, 1<<32 + 1}, {7, 1, 1}, // huge owners
			{7, 5, 1 << 32}, {0, 12, 1},
		} {
			change(t, m, p, x[0], x[1], x[2])
		}
	}
}

// TestP6_1Groups: runs within a group, up to its border, over it, and over several.
func TestP6_1Groups(t *testing.T) {
	edges := []int{0, 1, 30, 31, 32, 33, 63, 64, 65, 95, 96, 97, 127, 128, 129}
	for _, from := range edges {
		for _, to := range edges {
			if to < from {
				continue
			}
			m, p := newMap(t, 130)
			change(t, m, p, from, to-from, 5)
			if to > from {
				wantOf(t, m, 5, api.Run{From: from, N: to - from})
			}
			change(t, m, p, 40, 50, 6)
			change(t, m, p, from, to-from, 0)
			wantOf(t, m, 5)
			change(t, m, p, 0, 130, 0)
		}
	}
}

// TestP6_1TouchingRuns: runs that touch are one, over a border of groups too; runs that don't, or aren't of one owner, aren't.
func TestP6_1TouchingRuns(t *testing.T) {
	m, p := newMap(t, 100)
	change(t, m, p, 30, 2, 3)
	change(t, m, p, 32, 2, 3)
	wantOf(t, m, 3, api.Run{From: 30, N: 4})
	change(t, m, p, 60, 4, 3)
	change(t, m, p, 65, 4, 3)
	wantOf(t, m, 3, api.Run{From: 30, N: 4}, api.Run{From: 60, N: 4}, api.Run{From: 65, N: 4})
	change(t, m, p, 64, 1, 8)
	wantOf(t, m, 3, api.Run{From: 30, N: 4}, api.Run{From: 60, N: 4}, api.Run{From: 65, N: 4})
	change(t, m, p, 64, 1, 3)
	wantOf(t, m, 3, api.Run{From: 30, N: 4}, api.Run{From: 60, N: 9})
	change(t, m, p, 34, 26, 3) // what touches at both ends
	wantOf(t, m, 3, api.Run{From: 30, N: 39})
	change(t, m, p, 0, 30, 3)
	change(t, m, p, 69, 31, 3)
	wantOf(t, m, 3, api.Run{N: 100})
	change(t, m, p, 32, 32, 0) // just a group falls out
	wantOf(t, m, 3, api.Run{N: 32}, api.Run{From: 64, N: 36})
	change(t, m, p, 31, 1, 4)
	change(t, m, p, 64, 1, 4)
	wantOf(t, m, 4, api.Run{From: 31, N: 1}, api.Run{From: 64, N: 1})
}

// TestP6_1FewestRuns: as many runs as there can be: each second page is another one's.
func TestP6_1FewestRuns(t *testing.T) {
	m, p := newMap(t, api.MaxPages)
	for page := range api.MaxPages {
		r := api.Run{From: page, N: 1}
		wantSet(t, m, r, 1+page%2, p.set(r, 1+page%2))
	}
	wantMap(t, m, p, 0, 1, 2, 3)
	if len(m.Of(1)) != api.MaxPages/2 || len(m.Of(2)) != api.MaxPages/2 || m.Owned() != api.MaxPages {
		t.Error(len(m.Of(1)), len(m.Of(2)), m.Owned())
	}
	change(t, m, p, 1, 1, 1)
	if len(m.Of(1)) != api.MaxPages/2-1 {
		t.Error(len(m.Of(1)))
	}
}

// TestP6_1LastPage: the last page of all, in a group that isn't whole, in one of one page, and in a whole one.
func TestP6_1LastPage(t *testing.T) {
	for _, pages := range []int{1, 31, 32, 33, 64, 65, 70, api.MaxPages - 1, api.MaxPages} {
		m, p := newMap(t, pages)
		last := pages - 1
		change(t, m, p, last, 1, 9)
		wantOf(t, m, 9, api.Run{From: last, N: 1})
		change(t, m, p, pages, 0, 8) // no page, behind the last one
		wantSet(t, m, api.Run{From: last, N: 2}, 8, api.ErrRange)
		wantSet(t, m, api.Run{From: pages, N: 1}, 8, api.ErrRange)
		wantMap(t, m, p, 8, 9)
		change(t, m, p, last, 1, 8)
		wantOf(t, m, 9)
		change(t, m, p, last, 1, 0)
		wantOf(t, m, 8)
		change(t, m, p, last, 0, 8)
		change(t, m, p, 0, 0, 8)
		if m.Owned() != 0 {
			t.Errorf("of %d: Owned: got %d", pages, m.Owned())
		}
	}
}

// TestP6_1WordsOfAPage: of each page all words are whose the page is.
func TestP6_1WordsOfAPage(t *testing.T) {
	m, p := newMap(t, api.MaxPages)
	for page := range api.MaxPages {
		r := api.Run{From: page, N: 1}
		wantSet(t, m, r, page, p.set(r, page)) // page 0 is nobody's
	}
	for at := -40; at < api.MaxWords+600; at++ {
		want := 0
		if at < api.MaxWords {
			want = max(at, 0) >> 4
		}
		if got := m.Word(at); got != want {
			t.Fatalf("Word(%d): got %d, want %d", at, got, want)
		}
	}
	wantMap(t, m, p, 0, api.MaxPages)
}

// TestP6_1Away: of what isn't there Page and Word are nobody's, though all that is there, is somebody's.
func TestP6_1Away(t *testing.T) {
	for _, pages := range []int{0, 1, 32, 70, api.MaxPages} {
		m, p := newMap(t, pages)
		change(t, m, p, 0, pages, 6)
		for _, at := range away {
			if m.Page(at) != 0 || m.Word(at) != 0 {
				t.Errorf("of %d: Page(%d) is %d, Word(%d) is %d", pages, at, m.Page(at), at, m.Word(at))
			}
			wantOf(t, m, at)
		}
		for page := pages; page < api.MaxPages+70; page++ {
			if m.Page(page) != 0 || m.Word(page*api.PageWords) != 0 {
				t.Errorf("of %d: page %d", pages, page)
			}
		}
		wantMap(t, m, p, 0, 1, 5, 7) // to ask changes nothing
	}
}

// wrongRuns are runs that don't all stand in a map of 70 pages.
func wrongRuns() []api.Run {
	return []api.Run{
		{From: -1, N: 0}, {From: -1, N: 1}, {From: -1, N: 2}, {From: -32, N: 33}, {From: 0, N: -1}, {From: 5, N: -1}, {From: 69, N: -1}, {From: 70, N: -1}, {From: 71, N: -1}, {From: -1, N: -1},
		{From: 70, N: 1}, {From: 71, N: 0}, {From: 0, N: 71}, {From: 69, N: 2}, {From: 40, N: 31}, {From: 64, N: 32}, {From: 96, N: 0}, {From: 96, N: 1}, {From: api.MaxPages, N: 0},
		{From: 1 << 62, N: 1 << 62}, {From: 69, N: math.MaxInt}, {From: math.MaxInt, N: 1}, {From: math.MaxInt, N: math.MaxInt}, {From: math.MaxInt - 4, N: 10},
		{From: math.MaxInt, N: 0}, {From: math.MinInt, N: 0}, {From: math.MinInt, N: math.MinInt}, {From: 0, N: math.MinInt}, {From: 69, N: math.MinInt},
		{From: math.MinInt, N: math.MaxInt}, {From: math.MinInt, N: 1}, {From: 1 << 32, N: 0}, {From: 0, N: 1 << 32}, {From: 1<<32 + 1, N: 1}, {From: 1, N: 1<<32 + 1},
	}
}

// TestP6_1WrongSets: each error, and which one comes first; nothing has changed.
func TestP6_1WrongSets(t *testing.T) {
	for _, x := range [][2]int{{0, 0}, {0, 70}, {30, 5}, {69, 1}, {0, 1}} {
		m, p := newMap(t, 70)
		change(t, m, p, x[0], x[1], 4)
		for _, of := range []int{-1, -2, -4, -1 << 32, -1<<32 + 4, math.MinInt, math.MinInt + 1} {
			for _, r := range append(wrongRuns(), api.Run{}, api.Run{From: 70}, api.Run{From: 69, N: 1}, api.Run{N: 70}) {
				wantSet(t, m, r, of, api.ErrArg)
			}
		}
		wantMap(t, m, p, -4, -1, 0, 4)
		for _, of := range []int{0, 1, 4, 1 << 32, math.MaxInt} {
			for _, r := range wrongRuns() {
				wantSet(t, m, r, of, api.ErrRange)
			}
			wantMap(t, m, p, of)
		}
	}
}

// TestP6_1WrongOwners: nobody's pages aren't told as runs, nor those of a number below 0 or of one that has none.
func TestP6_1WrongOwners(t *testing.T) {
	m, p := newMap(t, 70)
	for _, x := range [][3]int{{0, 0, 2}, {10, 30, 2}, {0, 70, 2}, {0, 70, 3}, {0, 70, 0}} {
		change(t, m, p, x[0], x[1], x[2])
		for _, of := range append([]int{0, 1, 4, 32}, away...) {
			wantOf(t, m, of)
		}
	}
}

// TestP6_1AnswersAreNew: whoever writes into what Of answered changes nothing, behind what was answered neither.
func TestP6_1AnswersAreNew(t *testing.T) {
	m, p := newMap(t, 70)
	for _, x := range [][3]int{{1, 2, 3}, {30, 5, 3}, {66, 4, 3}, {40, 1, 5}} {
		change(t, m, p, x[0], x[1], x[2])
	}
	first, second := m.Of(3), m.Of(3)
	for at := range first {
		first[at] = api.Run{From: 9, N: 9}
	}
	_ = append(first[:0], make([]api.Run, cap(first))...)
	if !slices.Equal(second, p.of(3)) {
		t.Errorf("two answers share: %v", second)
	}
	wantMap(t, m, p, 0, 3, 5, 9)
	change(t, m, p, 31, 1, 5)
	if !slices.Equal(second, []api.Run{{From: 1, N: 2}, {From: 30, N: 5}, {From: 66, N: 4}}) {
		t.Errorf("an answer changed behind: %v", second)
	}
}

func TestP6_1MapsAreApart(t *testing.T) {
	a, p := newMap(t, 70)
	b, q := newMap(t, 70)
	change(t, a, p, 30, 5, 1)
	change(t, b, q, 33, 5, 2)
	change(t, a, p, 31, 1, 0)
	wantMap(t, a, p, 1, 2)
	wantMap(t, b, q, 1, 2)
}

// TestP6_1EveryMap holds whatever can stand in six pages around a border of groups, and in the last three of all, against the plain map.
func TestP6_1EveryMap(t *testing.T) {
	places := []int{29, 30, 31, 32, 33, 34, 64, 65, 66}
	total := 1
	for range places {
		total *= 3
	}
	m, p := newMap(t, 67)
	for code := range total {
		rest := code
		for _, page := range places {
			r := api.Run{From: page, N: 1}
			wantSet(t, m, r, rest%3, p.set(r, rest%3))
			rest /= 3
		}
		wantOf(t, m, 1, p.of(1)...)
		wantOf(t, m, 2, p.of(2)...)
		if m.Owned() != p.owned() {
			t.Errorf("Owned: got %d, want %d", m.Owned(), p.owned())
		}
		for _, page := range places {
			if m.Page(page) != p[page] {
				t.Errorf("Page(%d): got %d, want %d", page, m.Page(page), p[page])
			}
		}
		if t.Failed() {
			t.Fatal(p)
		}
	}
}

// TestP6_1AnyOrder holds long mixed rows of calls, of which some are wrong, against the plain map.
func TestP6_1AnyOrder(t *testing.T) {
	state := uint64(1)
	next := func(below int) int {
		state = state*6364136223846793005 + 1442695040888963407
		return int(state>>33) % below
	}
	for _, pages := range []int{5, 32, 40, 70, 130} {
		m, p := newMap(t, pages)
		for step := range 1500 {
			r := api.Run{From: next(pages+4) - 2, N: next(12) - 1}
			if next(8) == 0 {
				r.N = next(pages)
			}
			of := next(6) - 1
			wantSet(t, m, r, of, p.set(r, of))
			wantMap(t, m, p, 0, 1, 2, 3, 4)
			if t.Failed() {
				t.Fatalf("of %d pages, step %d: Set(%v, %d)", pages, step, r, of)
			}
		}
	}
}
