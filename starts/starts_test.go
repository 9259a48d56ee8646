package starts_test

import (
	"math"
	"slices"
	"testing"

	"kraal/api"
	"kraal/starts"
)

// below and beyond are places at which no word of any book stands.
var (
	below  = []int{-1, -2, -15, -16, -17, -64, -1 << 31, -1 << 32, -1<<32 + 3, math.MinInt, math.MinInt + 1, math.MinInt + 3}
	beyond = []int{
		api.MaxWords, api.MaxWords + 1, api.MaxWords + 3, 1<<16 + 3, 1<<31 - 1, 1 << 31, 1 << 32, 1<<32 + 3, 1 << 48, 1<<62 + 3, math.MaxInt - 3, math.MaxInt - 1, math.MaxInt,
	}
)

// plain is what a book should be, told in the simplest way: of each word, whether an object begins there.
type plain []bool

func (p plain) put(at int) api.Errno {
	if at < 1 || at >= len(p) {
		return api.ErrRange
	}
	if p[at] {
		return api.ErrBusy
	}
	p[at] = true
	return api.OK
}

// in asks of each word whether it is one of r's, with numbers that don't wrap round.
func (p plain) in(r api.Run) []int {
	var in []int
	for at, begins := range p {
		if begins && r.From >= 0 && r.N >= 0 && at >= r.From && uint64(at) < uint64(r.From)+uint64(r.N) {
			in = append(in, at)
		}
	}
	return in
}

func (p plain) drop(r api.Run) int {
	in := p.in(r)
	for _, at := range in {
		p[at] = false
	}
	return len(in)
}

func (p plain) is(at uint64) bool { return at < uint64(len(p)) && p[at] }

func (p plain) before(at int) (int, bool) {
	for last := min(at, len(p)-1); last >= 0; last-- {
		if p[last] {
			return last, true
		}
	}
	return 0, false
}

func (p plain) count() int {
	n := 0
	for _, begins := range p {
		if begins {
			n++
		}
	}
	return n
}

// newBook is a book, and what it should be.
func newBook(t *testing.T, words int) (*starts.Starts, plain) {
	t.Helper()
	s := starts.New(words)
	if s == nil {
		t.Fatalf("New(%d): got nil", words)
	}
	return s, make(plain, words)
}

// book is a book with objects that begin at those places, and what it should be.
func book(t *testing.T, words int, at ...int) (*starts.Starts, plain) {
	t.Helper()
	s, p := newBook(t, words)
	for _, begins := range at {
		wantPut(t, s, begins, api.OK)
		p.put(begins)
	}
	return s, p
}

func wantPut(t *testing.T, s *starts.Starts, at int, want api.Errno) {
	t.Helper()
	if e := s.Put(at); e != want {
		t.Errorf("Put(%d): got %v, want %v", at, e, want)
	}
}

func wantDrop(t *testing.T, s *starts.Starts, r api.Run, want int) {
	t.Helper()
	if n := s.Drop(r); n != want {
		t.Errorf("Drop(%v): got %d, want %d", r, n, want)
	}
}

func wantIn(t *testing.T, s *starts.Starts, r api.Run, want ...int) {
	t.Helper()
	if in := s.In(r); !slices.Equal(in, want) {
		t.Errorf("In(%v): got %v, want %v", r, in, want)
	}
}

func wantIs(t *testing.T, s *starts.Starts, at uint64, want bool) {
	t.Helper()
	if s.Is(at) != want {
		t.Errorf("Is(%d): got %v, want %v", at, !want, want)
	}
}

func wantBefore(t *testing.T, s *starts.Starts, at, want int, wantFound bool) {
	t.Helper()
	if last, found := s.Before(at); last != want || found != wantFound {
		t.Errorf("Before(%d): got %d, %v, want %d, %v", at, last, found, want, wantFound)
	}
}

func wantCount(t *testing.T, s *starts.Starts, want int) {
	t.Helper()
	if n := s.Count(); n != want {
		t.Errorf("Count: got %d, want %d", n, want)
	}
}

// wantAt: what asks of a place, and of runs that begin or end about it, answers as of the plain book.
func wantAt(t *testing.T, s *starts.Starts, p plain, at int) {
	t.Helper()
	wantIs(t, s, uint64(at), p.is(uint64(at)))
	last, found := p.before(at)
	wantBefore(t, s, at, last, found)
	for _, r := range []api.Run{{From: at}, {From: at, N: 1}, {From: at, N: 2}, {From: at, N: math.MaxInt}, {N: at}, {From: 1, N: at}} {
		wantIn(t, s, r, p.in(r)...)
	}
}

// wantBook: all that asks answers as of the plain book, at every word and just beyond its edges, and far away from all words.
func wantBook(t *testing.T, s *starts.Starts, p plain) {
	t.Helper()
	wantCount(t, s, p.count())
	for at := -3; at <= len(p)+3; at++ {
		wantAt(t, s, p, at)
	}
	for _, at := range slices.Concat(below, beyond) {
		wantAt(t, s, p, at)
	}
	for _, at := range []uint64{1 << 63, 1<<63 + 1, 1<<63 + 3, math.MaxUint64 - 3, math.MaxUint64} {
		wantIs(t, s, at, false)
	}
}

// wantEdges: all that asks answers as of the plain book, about those places and the book's ends: asked of each word, a great book would take too long.
func wantEdges(t *testing.T, s *starts.Starts, p plain, places ...int) {
	t.Helper()
	wantCount(t, s, p.count())
	for _, place := range append(places, 1, len(p)) {
		for at := place - 2; at <= place+2; at++ {
			wantAt(t, s, p, at)
		}
	}
}

// runsAbout are all runs that begin at most so far from a book's words, and have at most so many more of them, or less than none.
func runsAbout(words, far int) []api.Run {
	var all []api.Run
	for from := -far; from <= words+far; from++ {
		for n := -far; n <= words+far; n++ {
			all = append(all, api.Run{From: from, N: n})
		}
	}
	return all
}

// wrongRuns are runs whose From or N is below 0, the other one of every size: no word is one of theirs.
func wrongRuns() []api.Run {
	var all []api.Run
	for _, wrong := range below {
		for _, other := range slices.Concat(below, beyond, []int{0, 1, 2, 3, 7, 50}) {
			all = append(all, api.Run{From: wrong, N: other}, api.Run{From: other, N: wrong})
		}
	}
	return all
}

func TestP9_1Example(t *testing.T) {
	s, _ := newBook(t, 10)
	wantPut(t, s, 3, api.OK)
	wantPut(t, s, 7, api.OK)
	wantBefore(t, s, 6, 3, true)
	wantIs(t, s, 0, false)
}

// TestP9_1Sizes: a book has just so many words: at the last one an object can begin, at the one behind it none can.
func TestP9_1Sizes(t *testing.T) {
	sizes := map[int]int{api.MaxWords + 1: api.MaxWords, api.MaxWords + 16: api.MaxWords, 2 * api.MaxWords: api.MaxWords}
	for _, words := range []int{0, 1, 2, 3, 5, 15, 16, 17, 63, 64, 65, 100, 1000, api.MaxWords - 1, api.MaxWords} {
		sizes[words] = words
	}
	for _, words := range below {
		sizes[words] = 0
	}
	for _, words := range beyond {
		sizes[words] = api.MaxWords
	}
	for asked, words := range sizes {
		s := starts.New(asked)
		if s == nil {
			t.Fatalf("New(%d): got nil", asked)
		}
		p := make(plain, words)
		wantEdges(t, s, p)
		for _, at := range []int{words, words + 1, words + 16, 0, -1} {
			wantPut(t, s, at, api.ErrRange)
		}
		wantEdges(t, s, p)
		if words > 1 {
			wantPut(t, s, words-1, p.put(words-1))
			wantPut(t, s, words-1, api.ErrBusy)
			wantEdges(t, s, p)
			wantDrop(t, s, api.Run{From: words - 1, N: 1}, 1)
			wantCount(t, s, 0)
		}
		if t.Failed() {
			t.Fatalf("of New(%d)", asked)
		}
	}
}

// TestP9_1NoPlace: of no word, or of the word 0 alone, there is no place at which an object could begin.
func TestP9_1NoPlace(t *testing.T) {
	for _, words := range []int{-1, 0, 1} {
		s := starts.New(words)
		p := make(plain, max(words, 0))
		for _, at := range slices.Concat(below, beyond, []int{0, 1, 2, 3}) {
			wantPut(t, s, at, api.ErrRange)
		}
		for _, r := range slices.Concat(runsAbout(1, 3), wrongRuns()) {
			wantDrop(t, s, r, 0)
		}
		wantBook(t, s, p)
	}
}

// TestP9_1PutInAnyOrder: in whichever order objects are put, all calls answer alike, behind each of them.
func TestP9_1PutInAnyOrder(t *testing.T) {
	for _, order := range [][]int{
		{1, 2, 3, 5, 8, 13, 14, 15, 16, 17, 19},
		{19, 17, 16, 15, 14, 13, 8, 5, 3, 2, 1},
		{8, 19, 1, 15, 17, 2, 16, 3, 14, 13, 5},
		{19, 1, 17, 2, 16, 3, 15, 5, 14, 8, 13},
	} {
		s, p := newBook(t, 20)
		for _, at := range order {
			wantPut(t, s, at, p.put(at))
			wantBook(t, s, p)
		}
		wantIn(t, s, api.Run{N: 20}, 1, 2, 3, 5, 8, 13, 14, 15, 16, 17, 19)
		wantCount(t, s, 11)
	}
}

// TestP9_1PutWhereOneBegins: a second one is refused, and changes nothing.
func TestP9_1PutWhereOneBegins(t *testing.T) {
	s, p := book(t, 20, 1, 6, 7, 19)
	for range 2 {
		for _, at := range []int{1, 6, 7, 19} {
			wantPut(t, s, at, api.ErrBusy)
			wantBook(t, s, p)
		}
	}
	for _, at := range []int{2, 5, 8, 18} {
		wantPut(t, s, at, p.put(at))
	}
	wantBook(t, s, p)
}

// TestP9_1PutWhereNoneCan: at the word 0, and where there is no word, and nothing is changed by it.
func TestP9_1PutWhereNoneCan(t *testing.T) {
	for _, at := range [][]int{{}, {1}, {19}, {1, 2, 3, 4, 18, 19}} {
		s, p := book(t, 20, at...)
		for _, wrong := range slices.Concat(below, beyond, []int{0, 20, 21, 22, 32, 64, 100}) {
			wantPut(t, s, wrong, api.ErrRange)
			wantCount(t, s, len(at))
		}
		wantBook(t, s, p)
	}
}

// TestP9_1DropAsWritten: runs that hold none, one, some and all of the places, or end just about one, with what is left behind each.
func TestP9_1DropAsWritten(t *testing.T) {
	for _, x := range []struct {
		r    api.Run
		left []int
	}{
		{api.Run{From: 0, N: 0}, []int{4, 5, 9, 14}}, {api.Run{From: 4, N: 0}, []int{4, 5, 9, 14}}, {api.Run{From: 20, N: 0}, []int{4, 5, 9, 14}}, // no words
		{api.Run{From: 0, N: 4}, []int{4, 5, 9, 14}}, {api.Run{From: 6, N: 3}, []int{4, 5, 9, 14}}, {api.Run{From: 15, N: 5}, []int{4, 5, 9, 14}}, // none of them
		{api.Run{From: 9, N: 1}, []int{4, 5, 14}}, {api.Run{From: 8, N: 1}, []int{4, 5, 9, 14}}, {api.Run{From: 10, N: 1}, []int{4, 5, 9, 14}}, // just at one, ahead of it, behind it
		{api.Run{From: 8, N: 2}, []int{4, 5, 14}}, {api.Run{From: 9, N: 2}, []int{4, 5, 14}}, {api.Run{From: 6, N: 8}, []int{4, 5, 14}},
		{api.Run{From: 4, N: 1}, []int{5, 9, 14}}, {api.Run{From: 5, N: 1}, []int{4, 9, 14}}, {api.Run{From: 4, N: 2}, []int{9, 14}}, {api.Run{From: 3, N: 2}, []int{5, 9, 14}},
		{api.Run{From: 5, N: 5}, []int{4, 14}}, {api.Run{From: 5, N: 9}, []int{4, 14}}, {api.Run{From: 5, N: 10}, []int{4}}, {api.Run{From: 0, N: 14}, []int{14}},
		{api.Run{From: 0, N: 15}, nil}, {api.Run{From: 4, N: 11}, nil}, {api.Run{From: 4, N: 10}, []int{14}}, {api.Run{From: 5, N: 11}, []int{4}}, {api.Run{From: 0, N: 20}, nil},
		{api.Run{From: 9, N: 100}, []int{4, 5}}, {api.Run{From: 14, N: math.MaxInt}, []int{4, 5, 9}}, {api.Run{From: 15, N: math.MaxInt}, []int{4, 5, 9, 14}}, {api.Run{From: 0, N: math.MaxInt}, nil}, {api.Run{From: 5, N: 1 << 32}, []int{4}}, // behind the last word
		{api.Run{From: 20, N: 1}, []int{4, 5, 9, 14}}, {api.Run{From: 21, N: 50}, []int{4, 5, 9, 14}}, {api.Run{From: math.MaxInt, N: math.MaxInt}, []int{4, 5, 9, 14}}, // begun there
		{api.Run{From: -1, N: 20}, []int{4, 5, 9, 14}}, {api.Run{From: 4, N: -1}, []int{4, 5, 9, 14}}, {api.Run{From: -5, N: 10}, []int{4, 5, 9, 14}}, {api.Run{From: 10, N: -10}, []int{4, 5, 9, 14}},
	} {
		s, p := book(t, 20, 4, 5, 9, 14)
		wantDrop(t, s, x.r, 4-len(x.left))
		wantIn(t, s, api.Run{N: 20}, x.left...)
		p.drop(x.r)
		wantBook(t, s, p)
		wantDrop(t, s, x.r, 0)
		if t.Failed() {
			t.Fatalf("behind Drop(%v)", x.r)
		}
	}
}

// TestP9_1PutAgain: where one was dropped, one can begin again, as often as one likes.
func TestP9_1PutAgain(t *testing.T) {
	s, p := book(t, 20, 1, 6, 7, 19)
	for _, r := range []api.Run{{From: 6, N: 1}, {From: 1, N: 6}, {From: 7, N: 13}, {From: 0, N: 20}, {From: 0, N: 20}} {
		in := p.in(r)
		wantDrop(t, s, r, p.drop(r))
		wantBook(t, s, p)
		for _, at := range in {
			wantPut(t, s, at, p.put(at))
			wantBook(t, s, p)
			wantPut(t, s, at, api.ErrBusy)
		}
	}
	wantIn(t, s, api.Run{N: 20}, 1, 6, 7, 19)
}

// TestP9_1BeforeAsWritten: at a place at which one begins, ahead of it and behind it, ahead of all, and behind the book's last word.
func TestP9_1BeforeAsWritten(t *testing.T) {
	s, _ := book(t, 20, 3, 7, 8, 17)
	for at, want := range map[int]int{3: 3, 4: 3, 6: 3, 7: 7, 8: 8, 9: 8, 16: 8, 17: 17, 18: 17, 19: 17, 20: 17, 21: 17} {
		wantBefore(t, s, at, want, true)
	}
	for _, at := range beyond {
		wantBefore(t, s, at, 17, true)
	}
	for _, at := range append([]int{0, 1, 2}, below...) {
		wantBefore(t, s, at, 0, false)
	}
	s, _ = book(t, 20, 1, 19)
	for at, want := range map[int]int{1: 1, 2: 1, 18: 1, 19: 19, 20: 19} {
		wantBefore(t, s, at, want, true)
	}
	wantBefore(t, s, 0, 0, false)
}

// TestP9_1HugeWords: the number of none of the words, though its low bits, cut off, would be one's.
func TestP9_1HugeWords(t *testing.T) {
	for _, words := range []int{100, api.MaxWords} {
		s, _ := book(t, words, 1, 3, 64, 99)
		for _, at := range []uint64{1, 3, 64, 99} {
			wantIs(t, s, at, true)
			for bit := 14; bit < 64; bit++ {
				wantIs(t, s, at+1<<bit, false)
				wantIs(t, s, at-1<<bit, false)
			}
			wantIs(t, s, -at, false)
			wantIs(t, s, ^at, false)
		}
	}
}

// TestP9_1WrongRuns: a run whose From or N is below 0 has no words, however huge the other one is.
func TestP9_1WrongRuns(t *testing.T) {
	s, p := book(t, 60, 1, 2, 3, 16, 50, 59)
	for _, r := range wrongRuns() {
		wantIn(t, s, r)
		wantDrop(t, s, r, 0)
	}
	wantBook(t, s, p)
}

// TestP9_1HugeRuns: From and N together are more than an int holds: the words from From on are the run's.
func TestP9_1HugeRuns(t *testing.T) {
	for _, n := range []int{api.MaxWords, 1 << 31, 1 << 32, 1<<32 + 1, 1 << 62, math.MaxInt - 60, math.MaxInt - 3, math.MaxInt - 1, math.MaxInt} {
		for from, want := range map[int]int{0: 6, 1: 6, 2: 5, 3: 4, 4: 3, 16: 3, 17: 2, 50: 2, 51: 1, 59: 1, 60: 0, 61: 0, 1 << 32: 0, 1<<32 + 1: 0, math.MaxInt: 0} {
			s, p := book(t, 60, 1, 2, 3, 16, 50, 59)
			r := api.Run{From: from, N: n}
			wantIn(t, s, r, p.in(r)...)
			wantDrop(t, s, r, want)
			p.drop(r)
			wantBook(t, s, p)
		}
	}
}

// TestP9_1EveryBook holds every small book, and every run about its words, against the plain one.
func TestP9_1EveryBook(t *testing.T) {
	for words := range 8 {
		runs := runsAbout(words, 2)
		for set := range 1 << max(words-1, 0) {
			for _, r := range runs {
				s, p := newBook(t, words)
				for at := 1; at < words; at++ {
					if set>>(at-1)&1 == 1 {
						wantPut(t, s, at, p.put(at))
					}
				}
				wantIn(t, s, r, p.in(r)...)
				wantDrop(t, s, r, p.drop(r))
				wantIn(t, s, api.Run{N: words}, p.in(api.Run{N: words})...)
				wantCount(t, s, p.count())
			}
			if t.Failed() {
				t.Fatalf("of %d words, set %b", words, set)
			}
		}
	}
}

// TestP9_1EveryOrder holds every row of four calls that change a small book against the plain one, behind each call.
func TestP9_1EveryOrder(t *testing.T) {
	const words, calls = 4, 4
	type call struct {
		put bool
		at  int
		r   api.Run
	}
	var all []call
	for at := -1; at <= words; at++ {
		all = append(all, call{put: true, at: at})
	}
	for _, r := range []api.Run{{From: -1, N: 9}, {From: 2, N: -1}, {From: 1, N: 1}, {From: 2, N: 1}, {From: 2, N: 5}, {From: 0, N: 3}, {From: 0, N: 4}, {From: 3, N: math.MaxInt}, {From: 4, N: 1}, {From: 2, N: 0}} {
		all = append(all, call{r: r})
	}
	rows := 1
	for range calls {
		rows *= len(all)
	}
	for row := range rows {
		s, p := newBook(t, words)
		for left, n := row, 0; n < calls; left, n = left/len(all), n+1 {
			c := all[left%len(all)]
			if c.put {
				wantPut(t, s, c.at, p.put(c.at))
			} else {
				wantDrop(t, s, c.r, p.drop(c.r))
			}
			wantCount(t, s, p.count())
			wantIn(t, s, api.Run{N: words}, p.in(api.Run{N: words})...)
			for at := -1; at <= words; at++ {
				last, found := p.before(at)
				wantBefore(t, s, at, last, found)
				wantIs(t, s, uint64(at), p.is(uint64(at)))
			}
		}
		if t.Failed() {
			t.Fatalf("row %d", row)
		}
	}
}

// mixed makes numbers by a rule, the same ones each time.
type mixed uint64

// next is the next number, below that one.
func (m *mixed) next(under int) int {
	*m = *m*6364136223846793005 + 1442695040888963407
	return int(uint64(*m) >> 33 % uint64(under))
}

// TestP9_1AnyOrder holds long mixed rows of calls on books of few and of many words against plain ones.
func TestP9_1AnyOrder(t *testing.T) {
	for _, x := range []struct{ words, calls int }{{3, 200}, {20, 400}, {70, 400}, {api.MaxWords, 500}} {
		s, p := newBook(t, x.words)
		m := mixed(x.words)
		for range x.calls {
			at := m.next(x.words+6) - 3
			r := api.Run{From: m.next(x.words+6) - 3, N: m.next(x.words/3+4) - 1}
			switch m.next(12) {
			case 0:
				wantDrop(t, s, r, p.drop(r))
			case 1:
				toEnd := api.Run{From: r.From + x.words*3/4, N: math.MaxInt - m.next(3)}
				wantDrop(t, s, toEnd, p.drop(toEnd))
			case 2:
				for _, begins := range p.in(r) {
					wantPut(t, s, begins, api.ErrBusy)
				}
			default:
				wantPut(t, s, at, p.put(at))
			}
			wantIn(t, s, r, p.in(r)...)
			if x.words < 100 {
				wantBook(t, s, p)
			} else {
				wantEdges(t, s, p, at, m.next(x.words))
			}
			if t.Failed() {
				t.Fatalf("of %d words", x.words)
			}
		}
	}
}

// TestP9_1AllWords: objects that begin at every word that there is, but the word 0.
func TestP9_1AllWords(t *testing.T) {
	const words = api.MaxWords
	all := api.Run{N: words}
	s, p := newBook(t, words)
	for i := range words - 1 {
		// From both ends in turn, towards the middle.
		at := 1 + i/2
		if i%2 == 1 {
			at = words - 1 - i/2
		}
		wantPut(t, s, at, p.put(at))
	}
	wantCount(t, s, words-1)
	wantIn(t, s, all, p.in(all)...)
	wantEdges(t, s, p, words/2)
	for at := range words {
		wantPut(t, s, at, p.put(at))
		wantBefore(t, s, at, at, at > 0)
		wantIs(t, s, uint64(at), at > 0)
	}
	wantDrop(t, s, api.Run{From: 1000, N: 5000}, 5000)
	p.drop(api.Run{From: 1000, N: 5000})
	wantCount(t, s, words-5001)
	wantBefore(t, s, 5999, 999, true)
	wantIn(t, s, all, p.in(all)...)
	wantDrop(t, s, all, words-5001)
	wantCount(t, s, 0)
	wantIn(t, s, all)
	wantBefore(t, s, words, 0, false)
}

// TestP9_1InIsNew: what In answered is the asker's alone: written into, and written on behind its end, it changes nothing of what is answered next (R3).
func TestP9_1InIsNew(t *testing.T) {
	s, p := book(t, 20, 3, 4, 9, 15)
	for _, r := range []api.Run{{N: 20}, {From: 4, N: 6}, {From: 4, N: math.MaxInt}, {From: 15, N: 1}, {From: 5, N: 1}} {
		first, second := s.In(r), s.In(r)
		for i := range first {
			first[i] = -7
		}
		_ = append(first[:0:cap(first)], slices.Repeat([]int{1}, cap(first))...)
		if !slices.Equal(second, p.in(r)) {
			t.Errorf("In(%v): two answers share their memory: %v", r, second)
		}
		wantBook(t, s, p)
	}
	wantDrop(t, s, api.Run{N: 20}, 4)
}

// TestP9_1InStays: what In answered stays as it was, whatever is called then.
func TestP9_1InStays(t *testing.T) {
	s, _ := book(t, 20, 3, 4, 9, 15)
	in := s.In(api.Run{N: 20})
	wantDrop(t, s, api.Run{From: 4, N: 6}, 2)
	wantPut(t, s, 1, api.OK)
	wantIn(t, s, api.Run{N: 20}, 1, 3, 15)
	if !slices.Equal(in, []int{3, 4, 9, 15}) {
		t.Errorf("got %v", in)
	}
}

// TestP9_1AskingChangesNothing: calls that ask may be made as often as one likes.
func TestP9_1AskingChangesNothing(t *testing.T) {
	s, p := book(t, 20, 2, 11, 19)
	for range 3 {
		wantBook(t, s, p)
	}
}

// TestP9_1BooksAreApart: what is told to one book changes nothing of another one.
func TestP9_1BooksAreApart(t *testing.T) {
	a, pa := book(t, 20, 3, 9)
	b, pb := book(t, 20, 3, 12)
	wantPut(t, a, 12, pa.put(12))
	wantDrop(t, b, api.Run{From: 3, N: 1}, pb.drop(api.Run{From: 3, N: 1}))
	wantBook(t, a, pa)
	wantBook(t, b, pb)
}
