package bits_test

import (
	"math"
	"testing"

	"kraal/api"
	"kraal/bits"
)

// row is a row as a text tells it: a place with '#' is marked.
func row(t *testing.T, text string) *bits.Row {
	t.Helper()
	b, e := bits.New(len(text))
	if e != api.OK || b == nil {
		t.Fatalf("New(%d): %v", len(text), e)
	}
	for at := range len(text) {
		if text[at] == '#' {
			wantErr(t, "Mark", b.Mark(api.Run{From: at, N: 1}, true), api.OK)
		}
	}
	return b
}

// told is a row as a text.
func told(b *bits.Row) string {
	text := make([]byte, b.Len())
	for at := range text {
		text[at] = '.'
		if b.Has(at) {
			text[at] = '#'
		}
	}
	return string(text)
}

func wantRow(t *testing.T, b *bits.Row, want string) {
	t.Helper()
	if got := told(b); got != want {
		t.Errorf("the row: got %s, want %s", got, want)
	}
}

func wantErr(t *testing.T, what string, got, want api.Errno) {
	t.Helper()
	if got != want {
		t.Errorf("%s: got %v, want %v", what, got, want)
	}
}

func wantPlace(t *testing.T, what string, at int, ok bool, wantAt int, wantOK bool) {
	t.Helper()
	if at != wantAt || ok != wantOK {
		t.Errorf("%s: got %d, %v, want %d, %v", what, at, ok, wantAt, wantOK)
	}
}

// wrongRuns are runs that don't all stand in a row of six places.
func wrongRuns() []api.Run {
	return []api.Run{
		{From: -1, N: 0}, {From: -1, N: 1}, {From: -1, N: 2}, {From: 0, N: -1}, {From: 6, N: -1}, {From: 7, N: -1}, {From: -1, N: -1},
		{From: 6, N: 1}, {From: 7, N: 0}, {From: 0, N: 7}, {From: 5, N: 2}, {From: 3, N: 4},
		{From: 1 << 62, N: 1 << 62}, {From: 5, N: math.MaxInt}, {From: math.MaxInt, N: 1}, {From: math.MaxInt, N: math.MaxInt},
		{From: math.MaxInt, N: 0}, {From: math.MinInt, N: 0}, {From: math.MinInt, N: math.MinInt}, {From: 0, N: math.MinInt},
		{From: math.MinInt, N: math.MaxInt}, {From: 1 << 32, N: 0}, {From: 0, N: 1 << 32},
	}
}

func TestP2_1Sizes(t *testing.T) {
	for _, n := range []int{0, 1, 5, 63, 64, 65, api.MaxWords - 1, api.MaxWords} {
		b, e := bits.New(n)
		if e != api.OK || b == nil {
			t.Fatalf("New(%d): %v", n, e)
		}
		if b.Len() != n || b.Count() != 0 || !b.Whole(api.Run{N: n}, false) {
			t.Errorf("New(%d): Len %d, Count %d", n, b.Len(), b.Count())
		}
		at, ok := b.Next(0)
		wantPlace(t, "Next", at, ok, 0, false)
		at, ok = b.Find(n)
		wantPlace(t, "Find", at, ok, 0, n > 0)
	}
	for _, n := range []int{-1, -2, math.MinInt, api.MaxWords + 1, 1 << 40, math.MaxInt} {
		if b, e := bits.New(n); b != nil || e != api.ErrArg {
			t.Errorf("New(%d): got %v, %v", n, b, e)
		}
	}
}

func TestP2_1Mark(t *testing.T) {
	b := row(t, "........")
	steps := []struct {
		r    api.Run
		on   bool
		want string
	}{
		{api.Run{From: 1, N: 1}, true, ".#......"},
		{api.Run{From: 1, N: 1}, true, ".#......"},
		{api.Run{From: 3, N: 3}, true, ".#.###.."},
		{api.Run{From: 5, N: 2}, true, ".#.####."},
		{api.Run{From: 4, N: 1}, false, ".#.#.##."},
		{api.Run{From: 4, N: 1}, false, ".#.#.##."},
		{api.Run{From: 7, N: 1}, true, ".#.#.###"},
		{api.Run{From: 2, N: 4}, false, ".#....##"},
		{api.Run{From: 1, N: 0}, false, ".#....##"},
		{api.Run{From: 2, N: 0}, true, ".#....##"},
		{api.Run{From: 8, N: 0}, true, ".#....##"},
		{api.Run{From: 8, N: 0}, false, ".#....##"},
		{api.Run{From: 0, N: 8}, true, "########"},
		{api.Run{From: 0, N: 8}, false, "........"},
	}
	for _, s := range steps {
		wantErr(t, "Mark", b.Mark(s.r, s.on), api.OK)
		wantRow(t, b, s.want)
	}
}

func TestP2_1Has(t *testing.T) {
	b := row(t, "#..#")
	for at, want := range map[int]bool{
		0: true, 1: false, 2: false, 3: true, 4: false, 5: false, -1: false, -4: false,
		1 << 32: false, 1<<32 + 3: false, math.MaxInt: false, math.MinInt: false, math.MinInt + 3: false,
	} {
		if b.Has(at) != want {
			t.Errorf("Has(%d): got %v", at, !want)
		}
	}
}

func TestP2_1WrongRuns(t *testing.T) {
	for _, text := range []string{"......", "######", ".#.##."} {
		b := row(t, text)
		for _, r := range wrongRuns() {
			for _, on := range []bool{true, false} {
				wantErr(t, "Mark", b.Mark(r, on), api.ErrRange)
				if b.Whole(r, on) {
					t.Errorf("%s: Whole(%v, %v)", text, r, on)
				}
			}
		}
		wantRow(t, b, text)
	}
}

func TestP2_1Find(t *testing.T) {
	cases := []struct {
		text   string
		n, at  int
		within bool
	}{
		{".#...", 2, 2, true}, // the document's example
		{".#...", 1, 0, true}, {".#...", 3, 2, true}, {".#...", 4, 0, false}, {".#...", 5, 0, false},
		{"#####", 1, 0, false}, {"####.", 1, 4, true}, {"####.", 2, 0, false}, {"#....", 4, 1, true}, {"#....", 5, 0, false},
		{".....", 5, 0, true}, {".....", 6, 0, false}, {"....#", 4, 0, true}, {"....#", 5, 0, false},
		{"..#.#...##....", 1, 0, true}, {"..#.#...##....", 2, 0, true}, {"..#.#...##....", 3, 5, true}, {"..#.#...##....", 4, 10, true}, {"..#.#...##....", 5, 0, false},
		{"", 1, 0, false}, {"", 0, 0, false}, {".", 1, 0, true}, {"#", 1, 0, false},
		{"#...#", 0, 0, false}, {"#...#", -1, 0, false}, {"#...#", math.MinInt, 0, false}, {"#...#", math.MaxInt, 0, false}, {"#...#", 1 << 32, 0, false},
	}
	for _, c := range cases {
		b := row(t, c.text)
		at, ok := b.Find(c.n)
		wantPlace(t, c.text, at, ok, c.at, c.within)
		wantRow(t, b, c.text)
	}
}

func TestP2_1Next(t *testing.T) {
	b := row(t, ".#..##.")
	want := []int{1, 1, 4, 4, 4, 5}
	for from, at := range want {
		got, ok := b.Next(from)
		wantPlace(t, "Next", got, ok, at, true)
	}
	for _, from := range []int{-1, -7, math.MinInt} {
		got, ok := b.Next(from)
		wantPlace(t, "from below 0", got, ok, 1, true)
	}
	for _, from := range []int{6, 7, 8, 1 << 32, math.MaxInt} {
		got, ok := b.Next(from)
		wantPlace(t, "behind the last mark", got, ok, 0, false)
	}
	b = row(t, "#..#")
	for from, at := range []int{0, 3, 3, 3} {
		got, ok := b.Next(from)
		wantPlace(t, "marks at both ends", got, ok, at, true)
	}
	b = row(t, "....")
	for from := -1; from <= 5; from++ {
		got, ok := b.Next(from)
		wantPlace(t, "no mark", got, ok, 0, false)
	}
}

func TestP2_1CountAndWhole(t *testing.T) {
	b := row(t, "##.#..")
	if b.Count() != 3 {
		t.Errorf("Count: got %d", b.Count())
	}
	cases := []struct {
		r       api.Run
		on, off bool
	}{
		{api.Run{From: 0, N: 2}, true, false}, {api.Run{From: 0, N: 3}, false, false}, {api.Run{From: 0, N: 6}, false, false},
		{api.Run{From: 2, N: 1}, false, true}, {api.Run{From: 1, N: 2}, false, false}, {api.Run{From: 2, N: 2}, false, false},
		{api.Run{From: 3, N: 1}, true, false}, {api.Run{From: 4, N: 2}, false, true}, {api.Run{From: 3, N: 3}, false, false},
		{api.Run{From: 0, N: 0}, true, true}, {api.Run{From: 2, N: 0}, true, true}, {api.Run{From: 6, N: 0}, true, true},
		{api.Run{From: 5, N: 1}, false, true},
	}
	for _, c := range cases {
		if on, off := b.Whole(c.r, true), b.Whole(c.r, false); on != c.on || off != c.off {
			t.Errorf("Whole(%v): got %v, %v", c.r, on, off)
		}
	}
	wantRow(t, b, "##.#..")
}

func TestP2_1NoPlaces(t *testing.T) {
	b := row(t, "")
	for _, on := range []bool{true, false} {
		wantErr(t, "Mark of none", b.Mark(api.Run{}, on), api.OK)
		wantErr(t, "Mark of one", b.Mark(api.Run{N: 1}, on), api.ErrRange)
		wantErr(t, "Mark of none at 1", b.Mark(api.Run{From: 1}, on), api.ErrRange)
		if !b.Whole(api.Run{}, on) || b.Whole(api.Run{N: 1}, on) || b.Whole(api.Run{From: 1}, on) {
			t.Error("Whole", on)
		}
	}
	if b.Len() != 0 || b.Count() != 0 || b.Has(0) {
		t.Error("a row of no places", b.Len(), b.Count())
	}
	at, ok := b.Next(0)
	wantPlace(t, "Next", at, ok, 0, false)
	at, ok = b.Find(1)
	wantPlace(t, "Find", at, ok, 0, false)
}

func TestP2_1MostPlaces(t *testing.T) {
	const last = api.MaxWords - 1
	b, _ := bits.New(api.MaxWords)
	wantErr(t, "the last place", b.Mark(api.Run{From: last, N: 1}, true), api.OK)
	wantErr(t, "none at the end", b.Mark(api.Run{From: api.MaxWords}, true), api.OK)
	wantErr(t, "one too far", b.Mark(api.Run{From: api.MaxWords, N: 1}, true), api.ErrRange)
	wantErr(t, "one too many", b.Mark(api.Run{From: 1, N: api.MaxWords}, true), api.ErrRange)
	if b.Count() != 1 || !b.Has(last) || b.Has(last-1) || b.Has(api.MaxWords) {
		t.Error("the last place", b.Count())
	}
	at, ok := b.Next(-1)
	wantPlace(t, "Next", at, ok, last, true)
	at, ok = b.Next(last)
	wantPlace(t, "Next from the last place", at, ok, last, true)
	at, ok = b.Find(last)
	wantPlace(t, "Find all but one", at, ok, 0, true)
	at, ok = b.Find(api.MaxWords)
	wantPlace(t, "Find all", at, ok, 0, false)
	wantErr(t, "all", b.Mark(api.Run{N: api.MaxWords}, true), api.OK)
	if b.Count() != api.MaxWords || !b.Whole(api.Run{N: api.MaxWords}, true) {
		t.Error("all", b.Count())
	}
	wantErr(t, "the last two", b.Mark(api.Run{From: last - 1, N: 2}, false), api.OK)
	at, ok = b.Find(2)
	wantPlace(t, "Find at the end", at, ok, last-1, true)
	at, ok = b.Find(3)
	wantPlace(t, "Find one more", at, ok, 0, false)
	if b.Count() != api.MaxWords-2 || b.Whole(api.Run{N: api.MaxWords}, true) || !b.Whole(api.Run{From: last - 1, N: 2}, false) {
		t.Error("all but two", b.Count())
	}
}

func TestP2_1RowsAreApart(t *testing.T) {
	a, b := row(t, "...#"), row(t, "...#")
	wantErr(t, "Mark", a.Mark(api.Run{N: 2}, true), api.OK)
	wantRow(t, a, "##.#")
	wantRow(t, b, "...#")
}

// plain is what a row should be, told in the simplest way: the set of the marked places.
type plain struct {
	size   int
	marked map[int]bool
}

func (p plain) stands(r api.Run) bool {
	return r.From >= 0 && r.N >= 0 && r.From <= 99 && r.N <= 99 && r.From+r.N <= p.size
}

func (p plain) mark(r api.Run, on bool) api.Errno {
	if !p.stands(r) {
		return api.ErrRange
	}
	for at := r.From; at < r.From+r.N; at++ {
		if delete(p.marked, at); on {
			p.marked[at] = true
		}
	}
	return api.OK
}

func (p plain) whole(r api.Run, on bool) bool {
	for at := r.From; p.stands(r) && at < r.From+r.N; at++ {
		if p.marked[at] != on {
			return false
		}
	}
	return p.stands(r)
}

func (p plain) find(n int) (int, bool) {
	for at := 0; n >= 1 && at < p.size; at++ {
		if p.whole(api.Run{From: at, N: n}, false) {
			return at, true
		}
	}
	return 0, false
}

func (p plain) next(from int) (int, bool) {
	for at := range p.size {
		if at >= from && p.marked[at] {
			return at, true
		}
	}
	return 0, false
}

// hold asks the row everything that can be asked of it, just beyond its edges too.
func (p plain) hold(t *testing.T, b *bits.Row) {
	t.Helper()
	if b.Len() != p.size || b.Count() != len(p.marked) {
		t.Errorf("Len %d, Count %d, want %d, %d", b.Len(), b.Count(), p.size, len(p.marked))
	}
	for at := -2; at <= p.size+2; at++ {
		if b.Has(at) != p.marked[at] {
			t.Errorf("Has(%d): got %v", at, b.Has(at))
		}
		got, ok := b.Find(at)
		want, wantOK := p.find(at)
		wantPlace(t, "Find", got, ok, want, wantOK)
		got, ok = b.Next(at)
		want, wantOK = p.next(at)
		wantPlace(t, "Next", got, ok, want, wantOK)
		for n := -1; n <= p.size+2; n++ {
			r := api.Run{From: at, N: n}
			if b.Whole(r, true) != p.whole(r, true) || b.Whole(r, false) != p.whole(r, false) {
				t.Errorf("Whole(%v)", r)
			}
		}
	}
}

// TestP2_1EveryRow holds every small row against the plain one.
func TestP2_1EveryRow(t *testing.T) {
	for size := range 9 {
		for set := range 1 << size {
			b, _ := bits.New(size)
			p := plain{size, map[int]bool{}}
			for at := range size {
				if set>>at&1 == 1 {
					r := api.Run{From: at, N: 1}
					wantErr(t, "Mark", b.Mark(r, true), p.mark(r, true))
				}
			}
			p.hold(t, b)
			if t.Failed() {
				t.Fatal(told(b))
			}
		}
	}
}

// TestP2_1AnyOrder holds a long mixed row of calls against the plain row.
func TestP2_1AnyOrder(t *testing.T) {
	const size = 20
	b, _ := bits.New(size)
	p := plain{size, map[int]bool{}}
	state := uint64(1)
	next := func(below int) int {
		state = state*6364136223846793005 + 1442695040888963407
		return int(state>>33) % below
	}
	for step := range 4000 {
		r := api.Run{From: next(size+4) - 2, N: next(7) - 1}
		on := next(2) == 0
		wantErr(t, "Mark", b.Mark(r, on), p.mark(r, on))
		p.hold(t, b)
		if t.Failed() {
			t.Fatalf("step %d: Mark(%v, %v): %s", step, r, on, told(b))
		}
	}
}
