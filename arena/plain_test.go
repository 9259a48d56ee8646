package arena_test

import (
	"math"
	"slices"
	"testing"

	"kraal/api"
	"kraal/arena"
	"kraal/pages"
)

// wrongSizes are those that no thing has.
var wrongSizes = []int{
	0, -1, -2, -15, -16, -17, -16384, -16385, -1 << 31, -1 << 32, -1<<32 + 5, math.MinInt, math.MinInt + 5,
	16385, 16386, 16400, 1<<16 + 5, 1<<31 - 1, 1 << 31, 1 << 32, 1<<32 + 5, 1<<62 + 5, math.MaxInt - 15, math.MaxInt - 1, math.MaxInt,
}

// wrongWords are those that no page has.
var wrongWords = []int{
	-1, -2, -15, -16, -17, -16384, -1 << 31, -1 << 32, -1<<32 + 3, math.MinInt, math.MinInt + 3,
	16384, 16385, 1<<16 + 3, 1<<31 - 1, 1 << 31, 1 << 32, 1<<32 + 3, 1 << 60, 1<<60 + 3, math.MaxInt - 1, math.MaxInt,
}

// land is what pages should be, told in the simplest way: whether they are granted, and their words.
type land struct {
	granted []bool
	words   []uint64
}

// room is the first page from which on so many are free.
func (l *land) room(n int) (int, bool) {
	for from := 0; from+n <= len(l.granted); from++ {
		if !slices.Contains(l.granted[from:from+n], true) {
			return from, true
		}
	}
	return 0, false
}

func (l *land) grant(from, n int) {
	for page := from; page < from+n; page++ {
		l.granted[page] = true
		for i := range 16 {
			l.words[16*page+i] = 0
		}
	}
}

func (l *land) back(r api.Run) api.Errno {
	if slices.Contains(l.granted[r.From:r.From+r.N], false) {
		return api.ErrNone
	}
	for i := range r.N {
		l.granted[r.From+i] = false
	}
	return api.OK
}

// plain is what an arena should be, told in the simplest way: the words that are left in its page of small things, the runs that it took, and its things.
type plain struct {
	left         []int
	runs, things []api.Run
}

// own is how many pages of their own so many words take.
func (x *plain) own(size int) int {
	if size <= len(x.left) {
		return 0
	}
	n := 0
	for held := 0; held < size; held += 16 {
		n++
	}
	return n
}

func (x *plain) fits(l *land, size int) api.Errno {
	if size < 1 || size > 16384 {
		return api.ErrArg
	}
	if n := x.own(size); n > 0 {
		if _, ok := l.room(n); !ok {
			return api.ErrFull
		}
	}
	return api.OK
}

func (x *plain) alloc(l *land, size int) (int, api.Errno) {
	if e := x.fits(l, size); e != api.OK {
		return 0, e
	}
	var words []int
	if n := x.own(size); n == 0 {
		words = x.left
	} else {
		page, _ := l.room(n)
		l.grant(page, n)
		x.runs = append(x.runs, api.Run{From: page, N: n})
		for i := range 16 * n {
			words = append(words, 16*page+i)
		}
	}
	if size <= 16 {
		x.left = words[size:]
	}
	x.things = append(x.things, api.Run{From: words[0], N: size})
	return words[0], api.OK
}

func (x *plain) release(l *land) api.Errno {
	for _, r := range x.runs {
		if e := l.back(r); e != api.OK {
			return e
		}
	}
	*x = plain{}
	return api.OK
}

func (x *plain) has(at int) bool {
	for _, r := range x.runs {
		for page := r.From; page < r.From+r.N; page++ {
			if at >= 16*page && at <= 16*page+15 {
				return true
			}
		}
	}
	return false
}

func (x *plain) pages() int {
	n := 0
	for _, r := range x.runs {
		n += r.N
	}
	return n
}

// yard is some arenas of the same pages, and what they should be.
type yard struct {
	*testing.T
	pages  *pages.Pages
	land   *land
	arenas []*arena.Arena
	plains []*plain
}

// newYard is a yard of so many pages and arenas, of which nothing was placed.
func newYard(t *testing.T, size, arenas int) *yard {
	t.Helper()
	p, e := pages.New(size)
	if e != api.OK {
		t.Fatalf("pages.New(%d): got %v", size, e)
	}
	y := &yard{T: t, pages: p, land: &land{granted: make([]bool, size), words: make([]uint64, 16*size)}}
	for range arenas {
		y.join()
	}
	return y
}

// laid is a yard of as many pages as the text is long; somebody else has those for which it says '#'.
func laid(t *testing.T, text string, arenas int) *yard {
	t.Helper()
	y := newYard(t, len(text), arenas)
	y.grant(len(text))
	for page := range len(text) {
		if text[page] != '#' {
			y.back(page, 1)
		}
	}
	return y
}

// join makes one more arena.
func (y *yard) join() {
	y.Helper()
	a := arena.New(y.pages)
	if a == nil {
		y.Fatal("New: got nil")
	}
	y.arenas, y.plains = append(y.arenas, a), append(y.plains, &plain{})
}

// grant and back are what somebody else does with the pages, who knows nothing of arenas.
func (y *yard) grant(n int) {
	y.Helper()
	from, ok := y.land.room(n)
	if page, e := y.pages.Grant(n); !ok || page != from || e != api.OK {
		y.Fatalf("Grant(%d): got %d, %v", n, page, e)
	}
	y.land.grant(from, n)
}

func (y *yard) back(from, n int) {
	y.Helper()
	r := api.Run{From: from, N: n}
	if e := y.pages.Back(r); e != y.land.back(r) {
		y.Fatalf("Back(%v): got %v", r, e)
	}
}

// write writes a word, as whoever has the thing there does.
func (y *yard) write(at int, v uint64) {
	y.Helper()
	if e := y.pages.Mem().Write(at, v); e != api.OK {
		y.Fatalf("Write(%d): got %v", at, e)
	}
	y.land.words[at] = v
}

// soil writes into all words, also those of free pages.
func (y *yard) soil() {
	y.Helper()
	for at := range y.land.words {
		y.write(at, uint64(at)+1<<40)
	}
}

// alloc places a thing of the i-th arena, and holds what is answered against the plain one.
func (y *yard) alloc(i, size int) (int, api.Errno) {
	y.Helper()
	fits := y.arenas[i].Fits(size)
	at, e := y.arenas[i].Alloc(size)
	if want, wantErr := y.plains[i].alloc(y.land, size); at != want || e != wantErr || fits != (wantErr == api.OK) {
		y.Errorf("arena %d, size %d: Fits %v, Alloc %d, %v, want %d, %v", i, size, fits, at, e, want, wantErr)
	}
	return at, e
}

// want: it is placed there, or refused by that error.
func (y *yard) want(i, size, at int, e api.Errno) {
	y.Helper()
	if got, gotErr := y.alloc(i, size); got != at || gotErr != e {
		y.Errorf("arena %d, Alloc(%d): got %d, %v, want %d, %v", i, size, got, gotErr, at, e)
	}
}

func (y *yard) release(i int, want api.Errno) {
	y.Helper()
	plainErr := y.plains[i].release(y.land)
	if e := y.arenas[i].Release(); e != want || plainErr != want {
		y.Errorf("arena %d, Release: got %v, want %v (the plain one: %v)", i, e, want, plainErr)
	}
}

// whole: all that asks answers as of the plain arenas and pages.
func (y *yard) whole() {
	y.Helper()
	y.wantPages()
	for i := range y.arenas {
		y.wantLists(i)
		y.wantHas(i)
		y.wantFits(i)
	}
}

func (y *yard) wantPages() {
	y.Helper()
	free := 0
	for page, granted := range y.land.granted {
		if y.pages.Granted(page) != granted {
			y.Errorf("page %d: granted %v", page, !granted)
		}
		if !granted {
			free++
		}
	}
	if y.pages.Free() != free || y.pages.Len() != len(y.land.granted) {
		y.Errorf("the pages: %d free of %d, want %d of %d", y.pages.Free(), y.pages.Len(), free, len(y.land.granted))
	}
	if !slices.Equal(y.pages.Mem().All(), y.land.words) {
		y.Error("the words differ")
	}
}

func (y *yard) wantLists(i int) {
	y.Helper()
	a, x := y.arenas[i], y.plains[i]
	if got := a.Runs(); !slices.Equal(got, x.runs) {
		y.Errorf("arena %d, Runs: got %v, want %v", i, got, x.runs)
	}
	if got := a.Things(); !slices.Equal(got, x.things) {
		y.Errorf("arena %d, Things: got %v, want %v", i, got, x.things)
	}
	if got := a.Pages(); got != x.pages() {
		y.Errorf("arena %d, Pages: got %d, want %d", i, got, x.pages())
	}
}

// wantHas asks for the words beside each page's edges, and for some that aren't there.
func (y *yard) wantHas(i int) {
	y.Helper()
	for page := range len(y.land.granted) + 1 {
		for _, at := range []int{16*page - 1, 16 * page, 16*page + 1, 16*page + 15} {
			y.wantHasWord(i, at)
		}
	}
	for _, at := range wrongWords {
		y.wantHasWord(i, at)
	}
}

func (y *yard) wantHasWord(i, at int) {
	y.Helper()
	if want := y.plains[i].has(at); y.arenas[i].Has(at) != want {
		y.Errorf("arena %d, Has(%d): got %v", i, at, !want)
	}
}

// wantFits asks for every small size, for those at which one page more is needed, and for wrong ones.
func (y *yard) wantFits(i int) {
	y.Helper()
	sizes := []int{16383, 16384, 16385}
	for size := range 20 {
		sizes = append(sizes, size)
	}
	for page := range min(len(y.land.granted), 8) + 1 {
		sizes = append(sizes, 16*page-1, 16*page, 16*page+1)
	}
	n := len(y.land.words)
	for _, size := range slices.Concat(sizes, []int{n - 1, n, n + 1}, wrongSizes) {
		if want := y.plains[i].fits(y.land, size) == api.OK; y.arenas[i].Fits(size) != want {
			y.Errorf("arena %d, Fits(%d): got %v", i, size, !want)
		}
	}
}

// step is a thing of an arena, and where it stands, or by which error it is refused.
type step struct {
	arena, size, at int
	e               api.Errno
}

// play places things one behind the other, and asks everything behind each.
func (y *yard) play(row []step) {
	y.Helper()
	for _, x := range row {
		y.want(x.arena, x.size, x.at, x.e)
		y.whole()
	}
	if y.Failed() {
		y.Fatalf("of the row %v", row)
	}
}

// mixed is a row of numbers that come in no order that is plain to see, always the same.
type mixed uint64

// next is the next number, below that one.
func (m *mixed) next(under int) int {
	*m = *m*6364136223846793005 + 1442695040888963407
	return int(uint64(*m) >> 33 % uint64(under))
}
