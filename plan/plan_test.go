package plan_test

import (
	"math"
	"slices"
	"testing"

	"kraal/api"
	"kraal/plan"
)

var (
	// wrongSizes are those that no thing has.
	wrongSizes = []int{
		0, -1, -2, -15, -16, -17, -16384, -1 << 31, -1 << 32, -1<<32 + 5, math.MinInt, math.MinInt + 5,
		16385, 16386, 16400, 1<<16 + 5, 1<<31 - 1, 1 << 31, 1 << 32, 1<<32 + 5, 1<<62 + 5, math.MaxInt - 15, math.MaxInt - 1, math.MaxInt,
	}
	// wrongPages are those at which nothing that takes pages of its own is placed.
	wrongPages = []int{
		-1, -2, -16, -1024, -1 << 31, -1 << 32, -1<<32 + 3, math.MinInt, math.MinInt + 3, math.MinInt / 16,
		1025, 1026, 2048, 1<<16 + 3, 1<<31 - 1, 1 << 31, 1 << 32, 1<<32 + 3, 1 << 60, 1<<60 + 3, math.MaxInt / 16, math.MaxInt - 1, math.MaxInt,
	}
)

// plain is what a plan should be, told in the simplest way: the page of small things, and the sizes of those that stand in it.
type plain struct {
	page  int
	sizes []int
}

func (p *plain) used() int {
	used := 0
	for _, size := range p.sizes {
		used += size
	}
	return used
}

func (p *plain) left() int {
	if len(p.sizes) == 0 {
		return 0
	}
	return 16 - p.used()
}

func (p *plain) need(size int) (int, api.Errno) {
	if size < 1 || size > 16384 {
		return 0, api.ErrArg
	}
	if size <= 16 && size <= p.left() {
		return 0, api.OK
	}
	pages := 0
	for held := 0; held < size; held += 16 {
		pages++
	}
	return pages, api.OK
}

func (p *plain) place(size, page int) (int, api.Errno) {
	need, e := p.need(size)
	if e != api.OK {
		return 0, e
	}
	if need == 0 {
		at := 16*p.page + p.used()
		p.sizes = append(p.sizes, size)
		return at, api.OK
	}
	if page < 0 || page > 1024 {
		return 0, api.ErrRange
	}
	if size <= 16 {
		p.page, p.sizes = page, []int{size}
	}
	return 16 * page, api.OK
}

// thing is a thing of some words, and the page that is handed in with it.
type thing struct{ size, page int }

// newPlan is a plan of nothing, and what it should be.
func newPlan(t *testing.T) (*plan.Plan, *plain) {
	t.Helper()
	p := plan.New()
	if p == nil {
		t.Fatal("New: got nil")
	}
	return p, &plain{}
}

// placed is a plan with those things, and what it should be.
func placed(t *testing.T, things ...thing) (*plan.Plan, *plain) {
	t.Helper()
	p, model := newPlan(t)
	for _, x := range things {
		place(t, p, model, x)
	}
	return p, model
}

// place places a thing, and holds what is answered against the plain plan.
func place(t *testing.T, p *plan.Plan, model *plain, x thing) {
	t.Helper()
	at, e := model.place(x.size, x.page)
	wantPlace(t, p, x, at, e)
}

func wantNeed(t *testing.T, p *plan.Plan, size, want int, wantErr api.Errno) {
	t.Helper()
	if n, e := p.Need(size); n != want || e != wantErr {
		t.Errorf("Need(%d): got %d, %v, want %d, %v", size, n, e, want, wantErr)
	}
}

func wantPlace(t *testing.T, p *plan.Plan, x thing, want int, wantErr api.Errno) {
	t.Helper()
	if at, e := p.Place(x.size, x.page); at != want || e != wantErr {
		t.Errorf("Place(%d, %d): got %d, %v, want %d, %v", x.size, x.page, at, e, want, wantErr)
	}
}

func wantLeft(t *testing.T, p *plan.Plan, want int) {
	t.Helper()
	if n := p.Left(); n != want {
		t.Errorf("Left: got %d, want %d", n, want)
	}
}

func wantPages(t *testing.T, sizes []int, want int) {
	t.Helper()
	if n := plan.Pages(sizes); n != want {
		t.Errorf("Pages of %d sizes, %v: got %d, want %d", len(sizes), sizes[:min(len(sizes), 20)], n, want)
	}
}

// wantPlan: all that asks answers as of the plain plan, at every small size, at the edges of large ones, and at wrong ones.
func wantPlan(t *testing.T, p *plan.Plan, model *plain) {
	t.Helper()
	wantLeft(t, p, model.left())
	edges := []int{32, 33, 34, 48, 49, 16367, 16368, 16369, 16383, 16384}
	for size := range 20 {
		edges = append(edges, size)
	}
	for _, size := range slices.Concat(edges, wrongSizes) {
		n, e := model.need(size)
		wantNeed(t, p, size, n, e)
	}
	wantLeft(t, p, model.left())
}

// everyRow hands on every row of so many of those things.
func everyRow(things []thing, n int) func(yield func([]thing) bool) {
	return func(yield func([]thing) bool) {
		row := make([]thing, n)
		var hand func(i int) bool
		hand = func(i int) bool {
			if i == n {
				return yield(row)
			}
			for _, x := range things {
				row[i] = x
				if !hand(i + 1) {
					return false
				}
			}
			return true
		}
		hand(0)
	}
}

// mixed is a row of numbers that come in no order that is plain to see, always the same.
type mixed uint64

// next is the next number, below that one.
func (m *mixed) next(under int) int {
	*m = *m*6364136223846793005 + 1442695040888963407
	return int(uint64(*m) >> 33 % uint64(under))
}

func TestP10_1Example(t *testing.T) {
	p, _ := newPlan(t)
	for i, x := range []struct{ size, need int }{{10, 1}, {6, 0}, {1, 1}, {20, 2}} {
		wantNeed(t, p, x.size, x.need, api.OK)
		if _, e := p.Place(x.size, 3*i); e != api.OK {
			t.Errorf("Place(%d, %d): got %v", x.size, 3*i, e)
		}
	}
	wantPages(t, []int{10, 6, 1, 20}, 4)
}

// TestP10_1OfNothing: there is no page of small things yet, and nothing is left of it; not even the smallest thing fits in.
func TestP10_1OfNothing(t *testing.T) {
	p, model := newPlan(t)
	wantLeft(t, p, 0)
	wantNeed(t, p, 1, 1, api.OK)
	wantNeed(t, p, 15, 1, api.OK)
	wantNeed(t, p, 16, 1, api.OK)
	wantNeed(t, p, 17, 2, api.OK)
	wantNeed(t, p, 32, 2, api.OK)
	wantNeed(t, p, 33, 3, api.OK)
	wantNeed(t, p, 16384, 1024, api.OK)
	wantNeed(t, p, 16385, 0, api.ErrArg)
	wantNeed(t, p, 0, 0, api.ErrArg)
	wantPlan(t, p, model)
}

// TestP10_1NeedOfEverySize: of every size that there is, and some beyond, whatever is left in the page of small ones.
func TestP10_1NeedOfEverySize(t *testing.T) {
	for used := range 17 {
		p, model := newPlan(t)
		if used > 0 {
			place(t, p, model, thing{used, 9})
		}
		for size := -40; size <= 16384+40; size++ {
			n, e := model.need(size)
			wantNeed(t, p, size, n, e)
		}
		if t.Failed() {
			t.Fatalf("with %d words used", used)
		}
	}
}

// TestP10_1PlaceOfEverySize: of every size, where it stands, and that a small one alone makes its page that of small ones.
func TestP10_1PlaceOfEverySize(t *testing.T) {
	for size := 1; size <= 16384; size++ {
		p, _ := newPlan(t)
		wantPlace(t, p, thing{size, size % 1025}, size%1025*16, api.OK)
		left := 0
		if size <= 16 {
			left = 16 - size
		}
		wantLeft(t, p, left)
		p, _ = placed(t, thing{3, 7})
		at, left := size%1025*16, 13
		switch {
		case size <= 13:
			at, left = 115, 13-size
		case size <= 16:
			left = 16 - size
		}
		wantPlace(t, p, thing{size, size % 1025}, at, api.OK)
		wantLeft(t, p, left)
		if t.Failed() {
			t.Fatalf("of the size %d", size)
		}
	}
}

// stands is a thing, the page that is handed in with it, where it stands then, and what is left of the page of small things.
type stands struct{ size, page, at, left int }

// wantStands: those things, placed one behind the other, stand where it says.
func wantStands(t *testing.T, row []stands) {
	t.Helper()
	p, model := newPlan(t)
	for _, x := range row {
		wantPlace(t, p, thing{x.size, x.page}, x.at, api.OK)
		wantLeft(t, p, x.left)
		model.place(x.size, x.page)
		wantPlan(t, p, model)
	}
	if t.Failed() {
		t.Fatalf("of the row %v", row)
	}
}

// TestP10_1SmallInARow: as they are written here, small things one behind the other, pages rising, falling and mixed.
func TestP10_1SmallInARow(t *testing.T) {
	for _, row := range [][]stands{
		{{10, 0, 0, 6}, {6, 1, 10, 0}, {1, 1, 16, 15}, {15, 2, 17, 0}, {16, 2, 32, 0}},                                 // filled just to its end
		{{10, 0, 0, 6}, {7, 1, 16, 9}, {10, 2, 32, 6}, {6, 3, 42, 0}},                                                  // one word more than is left
		{{1, 5, 80, 15}, {1, 4, 81, 14}, {1, 3, 82, 13}, {13, 2, 83, 0}, {1, 1, 16, 15}},                               // pages that fall
		{{16, 9, 144, 0}, {16, 2, 32, 0}, {16, 7, 112, 0}},                                                             // each its own page
		{{15, 9, 144, 1}, {2, 2, 32, 14}, {1, 9, 34, 13}, {14, 9, 144, 2}, {2, 2, 158, 0}},                             // what is left of a page that was left behind stays so
		{{10, 4, 64, 6}, {10, 4, 64, 6}, {6, 4, 74, 0}, {3, 4, 64, 13}},                                                // the same page again is a page of its own all the same
		{{5, 0, 0, 11}, {11, 0, 5, 0}, {5, 1024, 16384, 11}, {11, 0, 16389, 0}, {8, 1023, 16368, 8}, {8, 0, 16376, 0}}, // the first page and the last ones
	} {
		wantStands(t, row)
	}
}

// TestP10_1EverySmallPair: a small thing of every size behind one of every size, and one behind both.
func TestP10_1EverySmallPair(t *testing.T) {
	for first := 1; first <= 17; first++ {
		for second := 1; second <= 17; second++ {
			for third := 1; third <= 17; third++ {
				p, model := placed(t, thing{first, 3}, thing{second, 1})
				wantLeft(t, p, model.left())
				place(t, p, model, thing{third, 8})
				wantLeft(t, p, model.left())
				if t.Failed() {
					t.Fatalf("of the sizes %d, %d, %d", first, second, third)
				}
			}
		}
	}
}

// TestP10_1JustWhatIsLeft: whatever is left, so many words still fit in, and one more doesn't.
func TestP10_1JustWhatIsLeft(t *testing.T) {
	for used := 1; used <= 16; used++ {
		left := 16 - used
		p, _ := placed(t, thing{used, 40})
		wantLeft(t, p, left)
		wantNeed(t, p, left+1, 1, api.OK)
		wantPlace(t, p, thing{left + 1, 50}, 800, api.OK)
		wantLeft(t, p, 16-(left+1))
		if left == 0 {
			continue
		}
		p, _ = placed(t, thing{used, 40})
		wantNeed(t, p, left, 0, api.OK)
		wantPlace(t, p, thing{left, 50}, 640+used, api.OK)
		wantLeft(t, p, 0)
		wantNeed(t, p, 1, 1, api.OK)
	}
}

// TestP10_1WordByWord: things of one word fill page behind page.
func TestP10_1WordByWord(t *testing.T) {
	p, model := newPlan(t)
	for i := range 200 {
		need := 0
		if i%16 == 0 {
			need = 1
		}
		wantNeed(t, p, 1, need, api.OK)
		wantPlace(t, p, thing{1, i / 16}, i, api.OK)
		wantLeft(t, p, 15-i%16)
		model.place(1, i/16)
		wantPlan(t, p, model)
	}
}

// TestP10_1LargeAmongSmall: a large thing ahead of, between and behind small ones leaves their page to them, with what is left of it.
func TestP10_1LargeAmongSmall(t *testing.T) {
	for _, row := range [][]stands{
		{{20, 3, 48, 0}, {4, 5, 80, 12}, {12, 9, 84, 0}},                                       // ahead: what is left of its last page isn't theirs
		{{4, 5, 80, 12}, {20, 3, 48, 12}, {12, 9, 84, 0}},                                      // between
		{{4, 5, 80, 12}, {20, 6, 96, 12}, {13, 9, 144, 3}},                                     // just behind, in the pages that come next
		{{4, 5, 80, 12}, {12, 9, 84, 0}, {20, 3, 48, 0}, {1, 1, 16, 15}},                       // behind a page that is just filled
		{{17, 0, 0, 0}, {17, 1024, 16384, 0}, {33, 2, 32, 0}, {16384, 0, 0, 0}, {1, 0, 0, 15}}, // large ones alone
		{{15, 0, 0, 1}, {17, 1, 16, 1}, {16384, 0, 0, 1}, {32, 1023, 16368, 1}, {1, 7, 15, 0}}, // several between
		{{6, 2, 32, 10}, {17, 2, 32, 10}, {10, 2, 38, 0}},                                      // at the page of small ones itself: no plan asks whose pages are
	} {
		wantStands(t, row)
	}
}

// TestP10_1EdgePages: at the first page and at the last ones that may be, small things and large ones.
func TestP10_1EdgePages(t *testing.T) {
	for page, at := range map[int]int{0: 0, 1: 16, 1022: 16352, 1023: 16368, 1024: 16384} {
		for _, size := range []int{1, 15, 16, 17, 32, 33, 16384} {
			p, model := newPlan(t)
			wantPlace(t, p, thing{size, page}, at, api.OK)
			model.place(size, page)
			wantPlan(t, p, model)
			place(t, p, model, thing{1, 12})
			wantPlan(t, p, model)
		}
	}
}

// TestP10_1EveryPage: at each page that may be, and at some that mayn't.
func TestP10_1EveryPage(t *testing.T) {
	p, model := newPlan(t)
	for page := -20; page <= 1044; page++ {
		place(t, p, model, thing{16, page})
		place(t, p, model, thing{17, page})
		place(t, p, model, thing{9, page})
		place(t, p, model, thing{3, page})
		wantLeft(t, p, model.left())
	}
}

// behindWhat are rows of things behind which wrong calls are made: of nothing, with a page that has words left, with one that is just filled, and with large ones.
func behindWhat() [][]thing {
	return [][]thing{
		{},
		{{1, 0}},
		{{5, 3}},
		{{15, 1024}},
		{{16, 3}},
		{{5, 0}, {11, 0}},
		{{40, 3}},
		{{5, 3}, {40, 4}},
		{{40, 4}, {5, 3}},
		{{16, 3}, {40, 4}},
	}
}

// wantGoesOn: things that are placed next stand as they do in the plain plan, to which nothing wrong was told.
func wantGoesOn(t *testing.T, p *plan.Plan, model *plain, things []thing) {
	t.Helper()
	for _, size := range []int{2, 40, 9, 1} {
		place(t, p, model, thing{size, 8})
		wantPlan(t, p, model)
	}
	if t.Failed() {
		t.Fatalf("behind %v", things)
	}
}

// TestP10_1WrongSizes: they are refused at each page, a wrong one too (R2), and nothing is changed.
func TestP10_1WrongSizes(t *testing.T) {
	for _, things := range behindWhat() {
		p, model := placed(t, things...)
		for _, size := range wrongSizes {
			wantNeed(t, p, size, 0, api.ErrArg)
			for _, page := range append([]int{0, 1, 3, 1023, 1024}, wrongPages...) {
				wantPlace(t, p, thing{size, page}, 0, api.ErrArg)
			}
			wantLeft(t, p, model.left())
		}
		wantPlan(t, p, model)
		wantGoesOn(t, p, model, things)
	}
}

// TestP10_1WrongPages: a thing that takes pages of its own is refused there, and nothing is changed.
func TestP10_1WrongPages(t *testing.T) {
	for _, things := range behindWhat() {
		p, model := placed(t, things...)
		for _, page := range wrongPages {
			for size := model.left() + 1; size <= 50; size++ {
				wantPlace(t, p, thing{size, page}, 0, api.ErrRange)
			}
			wantPlace(t, p, thing{16383, page}, 0, api.ErrRange)
			wantPlace(t, p, thing{16384, page}, 0, api.ErrRange)
			wantPlan(t, p, model)
		}
		wantGoesOn(t, p, model, things)
	}
}

// TestP10_1AnyPageWhereOneIsThere: a thing that stands in the page that is there takes none of its own, and the page that is handed in isn't looked at.
func TestP10_1AnyPageWhereOneIsThere(t *testing.T) {
	for _, page := range append([]int{0, 3, 7, 1023, 1024}, wrongPages...) {
		p, model := placed(t, thing{5, 7})
		wantNeed(t, p, 4, 0, api.OK)
		wantPlace(t, p, thing{4, page}, 117, api.OK)
		wantLeft(t, p, 7)
		model.place(4, page)
		wantPlan(t, p, model)
		wantPlace(t, p, thing{7, page}, 121, api.OK)
		wantLeft(t, p, 0)
		model.place(7, page)
		wantPlan(t, p, model)
	}
}

// TestP10_1EveryRow holds every row of three calls, of large, small and wrong things at good and wrong pages, against a plain plan.
func TestP10_1EveryRow(t *testing.T) {
	var things []thing
	for _, size := range []int{-1, 0, 1, 7, 8, 9, 15, 16, 17, 33, 16384, 16385} {
		for _, page := range []int{-1, 0, 2, 1024, 1025} {
			things = append(things, thing{size, page})
		}
	}
	for row := range everyRow(things, 3) {
		p, model := newPlan(t)
		for _, x := range row {
			place(t, p, model, x)
			wantLeft(t, p, model.left())
		}
		for _, size := range []int{1, 7, 8, 9, 15, 16, 17} {
			n, e := model.need(size)
			wantNeed(t, p, size, n, e)
		}
		if t.Failed() {
			t.Fatalf("of the row %v", row)
		}
	}
}

// TestP10_1AnyOrder holds long mixed rows of calls, of small things alone, and of all sizes and pages, against plain plans.
func TestP10_1AnyOrder(t *testing.T) {
	for _, most := range []int{4, 8, 17, 20, 40, 16384} {
		p, model := newPlan(t)
		m := mixed(most)
		for range 2000 {
			x := thing{1 + m.next(most), m.next(1025)}
			switch m.next(12) {
			case 0:
				x.size = wrongSizes[m.next(len(wrongSizes))]
			case 1:
				x.page = wrongPages[m.next(len(wrongPages))]
			case 2:
				x.size = model.left()
			case 3:
				x.size = model.left() + 1
			}
			n, e := model.need(x.size)
			wantNeed(t, p, x.size, n, e)
			place(t, p, model, x)
			wantPlan(t, p, model)
		}
		if t.Failed() {
			t.Fatalf("of at most %d words", most)
		}
	}
}

// TestP10_1AskingChangesNothing: calls that ask may be made as often as one likes, also of sizes that would be placed.
func TestP10_1AskingChangesNothing(t *testing.T) {
	for _, things := range behindWhat() {
		p, model := placed(t, things...)
		for range 3 {
			wantPlan(t, p, model)
		}
	}
}

// TestP10_1PlansAreApart: what is told to one plan changes nothing of another one, nor does Pages.
func TestP10_1PlansAreApart(t *testing.T) {
	a, modelA := placed(t, thing{5, 3})
	b, modelB := placed(t, thing{5, 3})
	place(t, a, modelA, thing{8, 1})
	wantPlan(t, b, modelB)
	place(t, b, modelB, thing{40, 1})
	place(t, b, modelB, thing{12, 9})
	wantPages(t, []int{3, 40, 3}, 4)
	wantPlan(t, a, modelA)
	wantPlan(t, b, modelB)
}

func TestP10_1PagesAsWritten(t *testing.T) {
	for _, x := range []struct {
		sizes []int
		want  int
	}{
		{nil, 0}, {[]int{}, 0}, {make([]int, 0, 10), 0},
		{[]int{1}, 1}, {[]int{15}, 1}, {[]int{16}, 1}, {[]int{17}, 2}, {[]int{32}, 2}, {[]int{33}, 3}, {[]int{16384}, 1024},
		{[]int{1, 15}, 1}, {[]int{1, 16}, 2}, {[]int{16, 1}, 2}, {[]int{16, 16}, 2}, {[]int{15, 2}, 2}, {[]int{15, 2, 1}, 2}, {[]int{10, 7, 9}, 2}, {[]int{10, 7, 10}, 3},
		{[]int{17, 15}, 3}, {[]int{17, 17}, 4}, {[]int{9, 100, 7}, 8}, {[]int{9, 100, 8}, 9}, {[]int{100, 9, 7}, 8}, {[]int{9, 7, 100}, 8},
		{[]int{16384, 16384, 16384}, 3072},
		{[]int{8, 9, 8}, 3},                                               // what is left of the first page is left for good
		{[]int{0}, 0}, {[]int{-1}, 0}, {[]int{16385}, 0}, {wrongSizes, 0}, // refused alone
		{[]int{0, 5}, 1}, {[]int{5, 0, 11}, 1}, {[]int{5, 16385, 11, -3}, 1}, {[]int{5, math.MinInt, 12, math.MaxInt, 4}, 2}, {[]int{-20, 20, 0}, 2}, // among others
		{slices.Concat(wrongSizes, []int{9}, wrongSizes, []int{7}, wrongSizes, []int{1}, wrongSizes), 2},
	} {
		wantPages(t, x.sizes, x.want)
		wantPages(t, x.sizes, x.want)
	}
}

// TestP10_1PagesOfEveryRow: every row of four sizes, wrong ones among them, takes as many pages as it does one by one.
func TestP10_1PagesOfEveryRow(t *testing.T) {
	var things []thing
	for _, size := range []int{-5, 0, 1, 6, 7, 9, 10, 15, 16, 17, 33, 16385} {
		things = append(things, thing{size: size})
	}
	for row := range everyRow(things, 4) {
		var model plain
		var sizes []int
		want := 0
		for _, x := range row {
			sizes = append(sizes, x.size)
			n, _ := model.need(x.size)
			model.place(x.size, 0)
			want += n
		}
		wantPages(t, sizes, want)
		if t.Failed() {
			t.Fatalf("of the sizes %v", sizes)
		}
	}
}

// TestP10_1PagesOfManySizes: also where they are more than there are pages.
func TestP10_1PagesOfManySizes(t *testing.T) {
	const many = 1 << 20
	for size, want := range map[int]int{
		-1: 0, 0: 0, 16385: 0,
		1: many / 16, 2: many / 8, 4: many / 4, 5: (many + 2) / 3, 8: many / 2, 9: many, 16: many, 17: 2 * many, 16384: 1024 * many,
	} {
		wantPages(t, slices.Repeat([]int{size}, many), want)
	}
	wantPages(t, slices.Repeat([]int{9, 7, 0}, many), many)
	wantPages(t, slices.Repeat([]int{9, 17, 7}, many), 3*many)
	wantPages(t, slices.Repeat([]int{9, 8}, many), 2*many)
}

// TestP10_1PagesLeavesItsSizes: the list that is handed in isn't changed (R3), nor what stands behind its end.
func TestP10_1PagesLeavesItsSizes(t *testing.T) {
	sizes := []int{10, 6, 0, -3, 16385, 20, 1, 15, 16, 3, 3, 3}
	was := slices.Clone(sizes)
	for n := range len(sizes) + 1 {
		plan.Pages(sizes[:n])
		if !slices.Equal(sizes, was) {
			t.Fatalf("Pages of the first %d: they are %v then, were %v", n, sizes, was)
		}
	}
	// Written into behind the call, they change nothing of what is answered next.
	for i := range sizes {
		sizes[i] = 16384
	}
	wantPages(t, was, 6)
}

// pageRows are rules by which pages are chosen for things, one behind the other.
func pageRows() map[string]func(i int) int {
	m := mixed(1)
	return map[string]func(i int) int{
		"always 0":    func(int) int { return 0 },
		"always 1024": func(int) int { return 1024 },
		"rising":      func(i int) int { return i % 1025 },
		"falling":     func(i int) int { return 1024 - i%1025 },
		"two in turn": func(i int) int { return i % 2 },
		"mixed":       func(int) int { return m.next(1025) },
	}
}

// TestP10_2OtherPages: the same sizes take as many pages each, whichever they are, and together as many as Pages answers.
func TestP10_2OtherPages(t *testing.T) {
	for _, most := range []int{3, 16, 24, 100, 16384} {
		m := mixed(most)
		var sizes, needs []int
		var model plain
		all := 0
		for range 1500 {
			size := 1 + m.next(most)
			n, _ := model.need(size)
			model.place(size, 0)
			sizes, needs = append(sizes, size), append(needs, n)
			all += n
		}
		wantPages(t, sizes, all)
		for name, page := range pageRows() {
			p, _ := newPlan(t)
			for i, size := range sizes {
				wantNeed(t, p, size, needs[i], api.OK)
				if _, e := p.Place(size, page(i)); e != api.OK {
					t.Fatalf("Place(%d, %d): got %v", size, page(i), e)
				}
			}
			if t.Failed() {
				t.Fatalf("of at most %d words, at pages %s", most, name)
			}
		}
	}
}

// TestP10_2EveryPairOfPages: wherever the first two of three things are, the third one takes as many pages.
func TestP10_2EveryPairOfPages(t *testing.T) {
	places := []int{0, 1, 2, 3, 1023, 1024}
	for _, sizes := range [][3]int{{10, 6, 1}, {10, 7, 9}, {10, 7, 10}, {10, 20, 6}, {20, 10, 7}, {16, 16, 1}, {1, 17, 15}, {1, 17, 16}} {
		var model plain
		model.place(sizes[0], 0)
		second, _ := model.need(sizes[1])
		model.place(sizes[1], 0)
		third, _ := model.need(sizes[2])
		for _, a := range places {
			for _, b := range places {
				p, _ := newPlan(t)
				p.Place(sizes[0], a)
				wantNeed(t, p, sizes[1], second, api.OK)
				p.Place(sizes[1], b)
				wantNeed(t, p, sizes[2], third, api.OK)
				wantLeft(t, p, model.left())
			}
		}
	}
}

// TestP10_2RefusedInBetween: pages that are refused, and sizes that are, change nothing of how many are taken.
func TestP10_2RefusedInBetween(t *testing.T) {
	sizes := []int{10, 6, 1, 20, 15, 16, 9, 33, 7, 8, 9}
	p, _ := newPlan(t)
	all := 0
	for i, size := range sizes {
		n, e := p.Need(size)
		if e != api.OK {
			t.Fatalf("Need(%d): got %v", size, e)
		}
		all += n
		wantPlace(t, p, thing{0, i}, 0, api.ErrArg)
		wantPlace(t, p, thing{16385, i}, 0, api.ErrArg)
		wantPlace(t, p, thing{17, -1}, 0, api.ErrRange)
		if n > 0 {
			wantPlace(t, p, thing{size, 1025}, 0, api.ErrRange)
			wantPlace(t, p, thing{size, -1}, 0, api.ErrRange)
		}
		if _, e := p.Place(size, i); e != api.OK {
			t.Fatalf("Place(%d, %d): got %v", size, i, e)
		}
	}
	wantPages(t, sizes, all)
}
