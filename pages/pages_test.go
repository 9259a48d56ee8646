package pages_test

import (
	"math"
	"reflect"
	"slices"
	"testing"

	"kraal/api"
	"kraal/pages"
)

func made(t *testing.T, n int) *pages.Pages {
	t.Helper()
	p, e := pages.New(n)
	if e != api.OK || p == nil {
		t.Fatalf("New(%d): %v", n, e)
	}
	return p
}

// laid are pages as the text says, '#' for one that is granted; the word at is at + 1.
func laid(t *testing.T, text string) *pages.Pages {
	t.Helper()
	p := made(t, len(text))
	wantGrant(t, p, len(text), 0, api.OK)
	for page := range len(text) {
		if text[page] != '#' {
			wantErr(t, "Back", p.Back(api.Run{From: page, N: 1}), api.OK)
		}
	}
	for at := range p.Mem().Len() {
		wantErr(t, "Write", p.Mem().Write(at, uint64(at+1)), api.OK)
	}
	return p
}

// told are pages as a text.
func told(p *pages.Pages) string {
	text := make([]byte, p.Len())
	for page := range text {
		text[page] = '.'
		if p.Granted(page) {
			text[page] = '#'
		}
	}
	return string(text)
}

func wantErr(t *testing.T, what string, got, want api.Errno) {
	t.Helper()
	if got != want {
		t.Errorf("%s: got %v, want %v", what, got, want)
	}
}

func wantGrant(t *testing.T, p *pages.Pages, n, want int, wantErr api.Errno) {
	t.Helper()
	if page, e := p.Grant(n); page != want || e != wantErr {
		t.Errorf("Grant(%d): got %d, %v, want %d, %v", n, page, e, want, wantErr)
	}
}

func wantPages(t *testing.T, p *pages.Pages, want string) {
	t.Helper()
	if got := told(p); got != want {
		t.Errorf("the pages: got %s, want %s", got, want)
	}
	free := 0
	for _, c := range want {
		if c == '.' {
			free++
		}
	}
	if p.Len() != len(want) || p.Free() != free || p.Mem().Len() != len(want)*api.PageWords {
		t.Errorf("Len %d, Free %d, words %d, want %d, %d, %d", p.Len(), p.Free(), p.Mem().Len(), len(want), free, len(want)*api.PageWords)
	}
}

// wantWords: all words are as laid wrote them, but for those of the wiped pages, which are 0.
func wantWords(t *testing.T, p *pages.Pages, wiped ...int) {
	t.Helper()
	for at, v := range p.Mem().All() {
		want := uint64(at + 1)
		if slices.Contains(wiped, at/api.PageWords) {
			want = 0
		}
		if v != want {
			t.Errorf("word %d of page %d: got %d, want %d", at, at/api.PageWords, v, want)
			return
		}
	}
}

func TestP3_1Sizes(t *testing.T) {
	for _, n := range []int{1, 2, 3, 16, 63, 64, 65, api.MaxPages - 1, api.MaxPages} {
		p := made(t, n)
		if p.Len() != n || p.Free() != n || p.Mem().Len() != n*api.PageWords {
			t.Errorf("New(%d): Len %d, Free %d, words %d", n, p.Len(), p.Free(), p.Mem().Len())
		}
		for page := range n {
			if p.Granted(page) {
				t.Errorf("New(%d): page %d is granted", n, page)
			}
		}
		for at, v := range p.Mem().All() {
			if v != 0 {
				t.Errorf("New(%d): word %d is %d", n, at, v)
			}
		}
	}
	for _, n := range []int{0, -1, -2, math.MinInt, api.MaxPages + 1, api.MaxWords, 1 << 32, 1<<32 + 1, 1 << 60, 1<<60 + 1, math.MaxInt} {
		if p, e := pages.New(n); p != nil || e != api.ErrArg {
			t.Errorf("New(%d): got %v, %v", n, p, e)
		}
	}
}

func TestP3_1Example(t *testing.T) {
	p := made(t, 3)
	wantGrant(t, p, 2, 0, api.OK)
	wantGrant(t, p, 2, 0, api.ErrFull)
	wantPages(t, p, "##.")
}

func TestP3_1GrantAndBack(t *testing.T) {
	p := made(t, 10)
	grant := func(n, from int, want string) {
		t.Helper()
		wantGrant(t, p, n, from, api.OK)
		wantPages(t, p, want)
	}
	back := func(from, n int, want string) {
		t.Helper()
		wantErr(t, "Back", p.Back(api.Run{From: from, N: n}), api.OK)
		wantPages(t, p, want)
	}
	grant(3, 0, "###.......")
	grant(1, 3, "####......")
	grant(4, 4, "########..")
	back(1, 1, "#.######..")  // the middle of the first run
	grant(2, 8, "#.########") // the hole is too short
	back(6, 3, "#.####...#")  // the end of one run and the beginning of the next one, at once
	grant(3, 6, "#.########")
	grant(1, 1, "##########")
	back(0, 1, ".#########")
	back(2, 2, ".#..######")
	back(5, 3, ".#..#...##")
	grant(2, 2, ".####...##") // the first place that is long enough, not the longest
	grant(3, 5, ".#########")
	back(9, 1, ".########.")
	grant(1, 0, "#########.")
	grant(1, 9, "##########")
	back(0, 10, "..........")
	grant(10, 0, "##########")
}

func TestP3_1FirstPlace(t *testing.T) {
	for _, c := range []struct {
		text    string
		n, from int
		want    string
	}{
		{"#.#..#...#....", 1, 1, "###..#...#...."},
		{"#.#..#...#....", 2, 3, "#.####...#...."},
		{"#.#..#...#....", 3, 6, "#.#..#####...."},
		{"#.#..#...#....", 4, 10, "#.#..#...#####"},
		{"...#....#.", 2, 0, "##.#....#."},
		{"...#..#..#", 2, 0, "##.#..#..#"},
		{"...", 3, 0, "###"},
		{"#...", 3, 1, "####"},
		{"...#", 3, 0, "####"},
		{".", 1, 0, "#"},
	} {
		p := laid(t, c.text)
		if !p.Fits(c.n) {
			t.Errorf("%s: Fits(%d): got false", c.text, c.n)
		}
		wantGrant(t, p, c.n, c.from, api.OK)
		wantPages(t, p, c.want)
		var wiped []int
		for page := c.from; page < c.from+c.n; page++ {
			wiped = append(wiped, page)
		}
		wantWords(t, p, wiped...)
	}
}

func TestP3_1Words(t *testing.T) {
	p := laid(t, "#..#..#")
	wantWords(t, p)
	wantGrant(t, p, 2, 1, api.OK)
	wantWords(t, p, 1, 2)
	for at := 1 * api.PageWords; at < 3*api.PageWords; at++ {
		wantErr(t, "Write", p.Mem().Write(at, uint64(at+1)), api.OK)
	}
	wantErr(t, "Back", p.Back(api.Run{From: 1, N: 3}), api.OK)
	wantWords(t, p) // words stay until the pages are granted next
	wantErr(t, "Back", p.Back(api.Run{From: 0, N: 1}), api.OK)
	wantErr(t, "Back", p.Back(api.Run{From: 6, N: 1}), api.OK)
	wantWords(t, p)
	wantGrant(t, p, 1, 0, api.OK)
	wantWords(t, p, 0)
	wantGrant(t, p, 6, 1, api.OK)
	wantWords(t, p, 0, 1, 2, 3, 4, 5, 6)
}

// TestP3_1WordsOfFreePages: words that are written while nobody has the page are 0 behind Grant too.
func TestP3_1WordsOfFreePages(t *testing.T) {
	p := made(t, 3)
	wantErr(t, "Fill", p.Mem().Fill(api.Run{N: 3 * api.PageWords}, math.MaxUint64), api.OK)
	wantGrant(t, p, 1, 0, api.OK)
	for at, v := range p.Mem().All() {
		want := uint64(math.MaxUint64)
		if at < api.PageWords {
			want = 0
		}
		if v != want {
			t.Errorf("word %d: got %d", at, v)
		}
	}
}

func TestP3_1OneMemory(t *testing.T) {
	p := made(t, 2)
	m := p.Mem()
	wantErr(t, "Write", m.Write(31, 5), api.OK)
	if v, e := p.Mem().Read(31); v != 5 || e != api.OK || p.Mem() != m {
		t.Errorf("Mem is another one: %d, %v", v, e)
	}
	wantGrant(t, p, 2, 0, api.OK)
	if v, _ := m.Read(31); v != 0 || p.Mem() != m {
		t.Errorf("a memory that was answered before: got %d", v)
	}
}

func TestP3_1PagesAreApart(t *testing.T) {
	a, b := laid(t, "#..#"), laid(t, "#..#")
	wantGrant(t, a, 2, 1, api.OK)
	wantErr(t, "Back", a.Back(api.Run{From: 0, N: 1}), api.OK)
	wantPages(t, a, ".###")
	wantPages(t, b, "#..#")
	wantWords(t, a, 1, 2)
	wantWords(t, b)
}

func TestP3_1OnePage(t *testing.T) {
	p := laid(t, ".")
	if !p.Fits(1) || p.Fits(2) || p.Fits(0) {
		t.Error("Fits of a free page")
	}
	wantGrant(t, p, 2, 0, api.ErrFull)
	wantErr(t, "Back", p.Back(api.Run{N: 1}), api.ErrNone)
	wantWords(t, p)
	wantGrant(t, p, 1, 0, api.OK)
	wantPages(t, p, "#")
	wantWords(t, p, 0)
	wantGrant(t, p, 1, 0, api.ErrFull)
	if p.Fits(1) {
		t.Error("Fits of a granted page")
	}
	wantErr(t, "Back", p.Back(api.Run{N: 1}), api.OK)
	wantPages(t, p, ".")
}

func TestP3_1MostPages(t *testing.T) {
	const most = api.MaxPages
	p := made(t, most)
	if !p.Fits(most) || p.Fits(most+1) {
		t.Error("Fits of all free pages")
	}
	wantGrant(t, p, most+1, 0, api.ErrFull)
	wantGrant(t, p, most, 0, api.OK)
	if p.Free() != 0 || p.Fits(1) || !p.Granted(most-1) || p.Granted(most) {
		t.Error("all pages granted", p.Free())
	}
	wantErr(t, "Fill", p.Mem().Fill(api.Run{N: api.MaxWords}, 7), api.OK)
	wantErr(t, "beyond the end", p.Back(api.Run{From: most - 1, N: 2}), api.ErrRange)
	wantErr(t, "the last page", p.Back(api.Run{From: most - 1, N: 1}), api.OK)
	if p.Free() != 1 || !p.Fits(1) || p.Fits(2) || p.Granted(most-1) || !p.Granted(most-2) {
		t.Error("the last page given back", p.Free())
	}
	wantGrant(t, p, 2, 0, api.ErrFull)
	wantGrant(t, p, 1, most-1, api.OK)
	for at, v := range p.Mem().All() {
		if want := at < (most-1)*api.PageWords; (v == 7) != want || (v == 0) == want {
			t.Fatalf("word %d: got %d", at, v)
		}
	}
	wantErr(t, "all pages", p.Back(api.Run{N: most}), api.OK)
	if p.Free() != most {
		t.Error("all pages given back", p.Free())
	}
}

func TestP3_1JustFits(t *testing.T) {
	for size := 2; size <= 9; size++ {
		for held := 1; held < size; held++ {
			p := made(t, size)
			wantGrant(t, p, held, 0, api.OK)
			if !p.Fits(size-held) || p.Fits(size-held+1) {
				t.Errorf("%s: Fits at the end", told(p))
			}
			wantGrant(t, p, size-held+1, 0, api.ErrFull)
			wantGrant(t, p, size-held, held, api.OK)
			if p.Free() != 0 {
				t.Errorf("%s: Free %d", told(p), p.Free())
			}
		}
	}
}

// texts are all ways in which so many pages may be granted.
func texts(size int) []string {
	var all []string
	for set := range 1 << size {
		text := make([]byte, size)
		for page := range text {
			text[page] = ".#"[set>>page&1]
		}
		all = append(all, string(text))
	}
	return all
}

// TestP3_1FitsAndGrant holds Fits against Grant, and both against a plain search, of all ways in which a few pages may be granted.
func TestP3_1FitsAndGrant(t *testing.T) {
	for size := 1; size <= 6; size++ {
		for _, text := range texts(size) {
			for n := -2; n <= size+2; n++ {
				p := laid(t, text)
				fits := p.Fits(n)
				wantPages(t, p, text)
				wantWords(t, p)
				from, e := modelOf(p).first(n)
				wantGrant(t, p, n, from, e)
				if fits != (e == api.OK) {
					t.Errorf("%s: Fits(%d): got %v, Grant answers %v", text, n, fits, e)
				}
				if e != api.OK {
					wantPages(t, p, text)
					wantWords(t, p)
				}
			}
		}
	}
}

func TestP3_1WrongGrants(t *testing.T) {
	for _, text := range []string{"....", "####", "#..#", ".##."} {
		p := laid(t, text)
		for _, n := range []int{0, -1, -4, -1 << 32, math.MinInt, math.MinInt + 1} {
			wantGrant(t, p, n, 0, api.ErrArg)
			if p.Fits(n) {
				t.Errorf("%s: Fits(%d)", text, n)
			}
		}
		for _, n := range []int{5, 6, 1 << 32, 1<<32 + 1, 1 << 60, 1<<60 + 1, math.MaxInt} {
			wantGrant(t, p, n, 0, api.ErrFull)
			if p.Fits(n) {
				t.Errorf("%s: Fits(%d)", text, n)
			}
		}
		wantPages(t, p, text)
		wantWords(t, p)
	}
}

func TestP3_1WrongRuns(t *testing.T) {
	for _, text := range []string{"......", "######", ".#.##.", "#.#..#"} {
		p := laid(t, text)
		for _, r := range []api.Run{
			{From: 0, N: 0}, {From: 3, N: 0}, {From: 6, N: 0}, {From: 7, N: 0}, {From: -1, N: 0},
			{From: 0, N: -1}, {From: 3, N: -2}, {From: 6, N: -1}, {From: 7, N: -1}, {From: -1, N: -1},
			{From: -1, N: 1}, {From: -1, N: 2}, {From: -6, N: 12}, {From: 6, N: 1}, {From: 7, N: 1}, {From: 0, N: 7}, {From: 5, N: 2}, {From: 3, N: 4},
			{From: 1 << 62, N: 1 << 62}, {From: 5, N: math.MaxInt}, {From: 1, N: math.MaxInt}, {From: 0, N: math.MaxInt},
			{From: math.MaxInt, N: 1}, {From: math.MaxInt, N: 2}, {From: math.MaxInt, N: math.MaxInt}, {From: math.MaxInt, N: 0}, {From: math.MaxInt, N: math.MinInt},
			{From: math.MinInt, N: 0}, {From: math.MinInt, N: 1}, {From: math.MinInt, N: math.MinInt}, {From: math.MinInt, N: math.MaxInt}, {From: math.MinInt + 3, N: math.MaxInt},
			{From: 0, N: math.MinInt}, {From: 1 << 32, N: 1}, {From: 0, N: 1 << 32}, {From: 0, N: 1<<32 + 1}, {From: 1<<60 + 1, N: 1}, {From: 0, N: 1<<60 + 1},
		} {
			if e := p.Back(r); e != api.ErrRange {
				t.Errorf("%s: Back(%v): got %v", text, r, e)
			}
		}
		wantPages(t, p, text)
		wantWords(t, p)
	}
}

func TestP3_1WrongPages(t *testing.T) {
	p := laid(t, "#..#")
	for page, want := range map[int]bool{
		0: true, 1: false, 2: false, 3: true, 4: false, 5: false, -1: false, -4: false,
		1 << 32: false, 1<<32 + 3: false, math.MaxInt: false, math.MinInt: false, math.MinInt + 3: false,
	} {
		if p.Granted(page) != want {
			t.Errorf("Granted(%d): got %v", page, !want)
		}
	}
}

// TestP3_2NotGranted: one page of a run that isn't granted is enough, wherever it stands in it.
func TestP3_2NotGranted(t *testing.T) {
	for _, text := range texts(5) {
		for from := range len(text) {
			for n := 1; n <= len(text)-from; n++ {
				p := laid(t, text)
				want, behind := api.OK, []byte(text)
				for page := from; page < from+n; page++ {
					if text[page] == '.' {
						want = api.ErrNone
					}
					behind[page] = '.'
				}
				if want != api.OK {
					behind = []byte(text)
				}
				wantErr(t, text, p.Back(api.Run{From: from, N: n}), want)
				wantPages(t, p, string(behind))
				wantWords(t, p)
			}
		}
	}
}

func TestP3_2Twice(t *testing.T) {
	p := laid(t, "######")
	back := func(from, n int, want api.Errno, pages string) {
		t.Helper()
		wantErr(t, "Back", p.Back(api.Run{From: from, N: n}), want)
		wantPages(t, p, pages)
		wantWords(t, p)
	}
	back(1, 2, api.OK, "#..###")
	back(1, 2, api.ErrNone, "#..###")
	back(1, 1, api.ErrNone, "#..###")
	back(2, 1, api.ErrNone, "#..###")
	back(0, 2, api.ErrNone, "#..###")
	back(2, 2, api.ErrNone, "#..###")
	back(0, 6, api.ErrNone, "#..###")
	back(5, 1, api.OK, "#..##.")
	back(5, 1, api.ErrNone, "#..##.")
	back(4, 2, api.ErrNone, "#..##.")
	wantGrant(t, p, 2, 1, api.OK)
	wantErr(t, "what is granted anew", p.Back(api.Run{From: 1, N: 2}), api.OK)
	wantErr(t, "and again", p.Back(api.Run{From: 1, N: 2}), api.ErrNone)
	wantPages(t, p, "#..##.")
}

// TestP3_2Apart: runs that are held at the same time share no page.
func TestP3_2Apart(t *testing.T) {
	p := made(t, 40)
	holder := map[int]int{}
	for who := 1; who <= 60; who++ {
		n := who%4 + 1
		from, e := p.Grant(n)
		if e != api.OK {
			continue
		}
		for page := from; page < from+n; page++ {
			if holder[page] != 0 {
				t.Errorf("page %d, of the run %d, is granted to %d", page, holder[page], who)
			}
			holder[page] = who
		}
		if who%3 == 0 { // one page goes, and comes to somebody else
			wantErr(t, "Back", p.Back(api.Run{From: from, N: 1}), api.OK)
			delete(holder, from)
		}
		if p.Free() != p.Len()-len(holder) {
			t.Errorf("Free: got %d, held %d", p.Free(), len(holder))
		}
	}
}

// TestP3_2OnlyTheListedCalls: an embedded part lends no call by which pages could be granted past Grant.
func TestP3_2OnlyTheListedCalls(t *testing.T) {
	var got []string
	for m := range reflect.TypeFor[*pages.Pages]().Methods() {
		got = append(got, m.Name)
	}
	want := []string{"Back", "Fits", "Free", "Grant", "Granted", "Len", "Mem"}
	if slices.Sort(got); !slices.Equal(got, want) {
		t.Errorf("calls: got %v, want %v", got, want)
	}
}

// model is what pages should be, told in the simplest way.
type model struct {
	granted []bool
	words   []uint64
}

func modelOf(p *pages.Pages) *model {
	m := &model{words: p.Mem().All()}
	for page := range p.Len() {
		m.granted = append(m.granted, p.Granted(page))
	}
	return m
}

func (m *model) all(from, n int, granted bool) bool {
	return !slices.Contains(m.granted[from:from+n], !granted)
}

func (m *model) first(n int) (int, api.Errno) {
	if n < 1 {
		return 0, api.ErrArg
	}
	for from := 0; from+n <= len(m.granted); from++ {
		if m.all(from, n, false) {
			return from, api.OK
		}
	}
	return 0, api.ErrFull
}

func (m *model) grant(n int) (int, api.Errno) {
	from, e := m.first(n)
	for page := from; e == api.OK && page < from+n; page++ {
		m.granted[page] = true
		for i := range api.PageWords {
			m.words[page*api.PageWords+i] = 0
		}
	}
	return from, e
}

func (m *model) back(r api.Run) api.Errno {
	if r.N < 1 || r.From < 0 || r.From+r.N > len(m.granted) {
		return api.ErrRange
	}
	if !m.all(r.From, r.N, true) {
		return api.ErrNone
	}
	for page := r.From; page < r.From+r.N; page++ {
		m.granted[page] = false
	}
	return api.OK
}

func (m *model) hold(t *testing.T, p *pages.Pages) {
	t.Helper()
	text := ""
	for _, granted := range m.granted {
		if granted {
			text += "#"
		} else {
			text += "."
		}
	}
	wantPages(t, p, text)
	if !slices.Equal(p.Mem().All(), m.words) {
		t.Error("the words differ")
	}
	for n := -1; n <= len(m.granted)+1; n++ {
		if _, e := m.first(n); p.Fits(n) != (e == api.OK) {
			t.Errorf("Fits(%d): got %v", n, p.Fits(n))
		}
	}
}

// TestP3_1AnyOrder holds long mixed rows of calls against the model.
func TestP3_1AnyOrder(t *testing.T) {
	for seed := range uint64(8) {
		size := int(seed)*3 + 1
		p := made(t, size)
		m := modelOf(p)
		state := seed + 1
		next := func(below int) int {
			state = state*6364136223846793005 + 1442695040888963407
			return int(state>>33) % below
		}
		for step := range 1500 {
			switch next(3) {
			case 0:
				n := next(6) - 1
				from, e := m.grant(n)
				wantGrant(t, p, n, from, e)
			case 1:
				r := api.Run{From: next(size+3) - 1, N: next(5) - 1}
				wantErr(t, "Back", p.Back(r), m.back(r))
			case 2:
				at := next(size * api.PageWords)
				m.words[at] = uint64(step + 1)
				wantErr(t, "Write", p.Mem().Write(at, uint64(step+1)), api.OK)
			}
			m.hold(t, p)
			if t.Failed() {
				t.Fatalf("seed %d, step %d: %s", seed, step, told(p))
			}
		}
	}
}
