package census_test

import (
	"slices"
	"testing"

	"kraal/api"
	"kraal/census"
	"kraal/heap"
)

// mixed is a row of numbers that come in no order that is plain to see, always the same.
type mixed uint64

// next is the next number, below that one.
func (m *mixed) next(under int) int {
	*m = *m*6364136223846793005 + 1442695040888963407
	return int(uint64(*m) >> 33 % uint64(under))
}

// oneOf is one of a list.
func oneOf[T any](m *mixed, l []T) T { return l[m.next(len(l))] }

// fourTypes are such that between them they have all kinds, one alone and several together.
var fourTypes = []api.Desc{allKinds, desc(api.Counted), desc(api.Up, api.Counted, api.Counted), desc(slices.Repeat([]int{api.Counted, api.Same, api.Scalar}, 7)...)}

// shape is how a mixed row is made: of which heap, and how many calls; by turns so many calls make more than goes, up to some regions mostly, and as many have more go than they make.
type shape struct {
	name   string
	config api.Config
	calls  int
	turn   int
	some   int
}

var shapes = []shape{
	{"one page", api.Config{Pages: 1}, 600, 40, 3},
	{"one page, a global", api.Config{Pages: 1, Globals: 1, Types: fourTypes[1:2]}, 600, 40, 3},
	{"two pages", api.Config{Pages: 2, Globals: 1, Types: fourTypes[:1]}, 1500, 60, 3},
	{"six pages", api.Config{Pages: 6, Globals: 3, Types: fourTypes}, 1200, 100, 5},
	{"twenty pages", api.Config{Pages: 20, Globals: 64, Types: fourTypes}, 900, 150, 7},
	{"seventy pages, many regions", api.Config{Pages: 70, Globals: 2, Types: fourTypes}, 600, 450, 70},
	{"all pages", api.Config{Pages: api.MaxPages, Globals: 5, Types: slices.Repeat(fourTypes, 8)}, 150, 100, 9},
}

// mixedRows makes mixed rows of all shapes, and checks behind each call; the check is told which call it was, and what that answered.
func mixedRows(t *testing.T, check func(h *heap.Heap, call string, e api.Errno)) {
	t.Helper()
	for _, s := range shapes {
		for seed := range 3 {
			m := mixed(seed)
			h := made(t, s.config)
			for step := range s.calls {
				call, e := m.call(h, s, step/s.turn%2 == 0)
				check(h, call, e)
				if t.Failed() {
					t.Fatalf("%s, row %d, call %d, %s: %v", s.name, seed, step, call, e)
				}
			}
		}
	}
}

// call makes any call. Of those by which things come and go, those come more often that lead where the row goes.
func (m *mixed) call(h *heap.Heap, s shape, rising bool) (string, api.Errno) {
	few := len(h.Live()) < s.some
	switch what := m.next(22); {
	case what < 2 && rising && few, what == 2 && !(rising && few):
		_, e := h.Region(m.region(h) * uint64(m.next(3)/2))
		return "Region", e
	case what < 6 && rising, what == 3:
		_, e := h.Alloc(m.region(h), m.head(s.config.Types))
		return "Alloc", e
	case what < 6, what == 6:
		return "Delete", m.delete(h)
	case what < 14:
		return m.set(h)
	case what < 16:
		return "SetGlobal", h.SetGlobal(uint64(m.next(s.config.Globals+1)), m.address(h, 0))
	case what < 17:
		return "Push", h.Push(uint64(m.next(5)))
	case what < 19:
		return "Pop", h.Pop()
	default:
		return "SetSlot", h.SetSlot(uint64(m.next(4)), m.address(h, 0))
	}
}

// region is one that lives mostly, else none's number.
func (m *mixed) region(h *heap.Heap) uint64 {
	live := h.Live()
	if len(live) == 0 || m.next(20) == 0 {
		return oneOf(m, append([]uint64{0, 1, 2, 3, 4}, huge...))
	}
	return uint64(oneOf(m, live))
}

// head is one that may be mostly: small ones more often than large ones, one without fields among them.
func (m *mixed) head(types []api.Desc) api.Head {
	switch what := m.next(12); {
	case what == 0:
		return api.Head{Array: m.next(2) == 0, Kind: m.next(6) - 1, Type: m.next(5) - 1, N: m.next(20) - 1}
	case what < 3:
		return array(m.next(4), 15+m.next(34))
	case what < 7 && len(types) > 0:
		i := m.next(len(types))
		return typed(i, len(types[i].Fields))
	}
	return array(m.next(4), m.next(6))
}

// set sets a field, of those that there are mostly.
func (m *mixed) set(h *heap.Heap) (string, api.Errno) {
	all := h.Objects()
	if len(all) == 0 {
		return "Set", h.Set(1, 0, 0)
	}
	o := oneOf(m, all)
	return "Set", h.Set(uint64(o.At), uint64(m.next(len(o.Kinds)+1)), m.address(h, o.Region))
}

// address is an object's mostly, that of one of a region often; else 0, or any word.
func (m *mixed) address(h *heap.Heap, region int) uint64 {
	all := h.Objects()
	what := m.next(12)
	switch own := slices.DeleteFunc(slices.Clone(all), func(o api.Object) bool { return o.Region != region }); {
	case what < 2 || len(all) == 0:
		return 0
	case what == 2:
		return uint64(m.next(16 * h.Len()))
	case what < 6 && len(own) > 0:
		return uint64(oneOf(m, own).At)
	}
	return uint64(oneOf(m, all).At)
}

// delete deletes a region. Half the time what points to it from outside is taken away ahead of that.
func (m *mixed) delete(h *heap.Heap) api.Errno {
	region := m.region(h)
	if m.next(2) == 0 {
		return h.Delete(region)
	}
	for i := range uint64(64) {
		if v, _ := h.Global(i); h.Of(v) == int(region) {
			h.SetGlobal(i, 0)
		}
	}
	for _, o := range h.Objects() {
		for i, v := range o.Values {
			if o.Kinds[i] == api.Counted && v != 0 && h.Of(v) == int(region) {
				h.Set(uint64(o.At), uint64(i), 0)
			}
		}
	}
	for n, _ := h.Count(region); n > 0; n, _ = h.Count(region) {
		h.Pop()
	}
	return h.Delete(region)
}

// wantSums: all counts together are all that goes out, and the roots that point to an object; and of each region something is held just if its count isn't 0. They are summed over what census tells, and the heap's roots and objects, alone.
func wantSums(t *testing.T, h *heap.Heap) {
	t.Helper()
	in, out, roots, objects := 0, 0, 0, h.Objects()
	for _, r := range census.Rows(h) {
		in += r.In
		out += r.Out
		if held := census.Held(h, uint64(r.Region)); (len(held) > 0) != (r.In > 0) || len(held) > r.In {
			t.Errorf("region %d: its count is %d, and these are held: %v", r.Region, r.In, held)
		}
	}
	for _, v := range h.Roots() {
		if slices.ContainsFunc(objects, func(o api.Object) bool { return uint64(o.At) == v }) {
			roots++
		}
	}
	if in != out+roots {
		t.Errorf("the counts are %d together, what goes out is %d, and %d roots point to an object", in, out, roots)
	}
}

// often are the things that mixed rows come to, each of them many times: rows that lacked one would prove little.
var often = []struct {
	name string
	are  func(h *heap.Heap, call string, e api.Errno, before []census.Row) bool
}{
	{"no regions, behind a Delete", func(h *heap.Heap, call string, e api.Errno, _ []census.Row) bool {
		return call == "Delete" && e == api.OK && len(h.Live()) == 0
	}},
	{"a Delete that takes from other counts", func(h *heap.Heap, call string, e api.Errno, before []census.Row) bool {
		return call == "Delete" && e == api.OK && came(before) > came(census.Rows(h))
	}},
	{"a Pop that takes from counts", func(h *heap.Heap, call string, e api.Errno, before []census.Row) bool {
		return call == "Pop" && e == api.OK && came(before) > came(census.Rows(h))
	}},
	{"a region without objects", some(func(_ *heap.Heap, r census.Row) bool { return r.Objects == 0 && r.Pages == 0 })},
	{"a region of many objects", some(func(_ *heap.Heap, r census.Row) bool { return r.Objects > 8 })},
	{"a region of many pages", some(func(_ *heap.Heap, r census.Row) bool { return r.Pages > 4 })},
	{"a region with a large object", some(func(h *heap.Heap, r census.Row) bool {
		return slices.ContainsFunc(h.Objects(), func(o api.Object) bool { return o.Region == r.Region && len(o.Kinds) > 15 })
	})},
	{"a region of which several objects are held", some(func(h *heap.Heap, r census.Row) bool { return len(census.Held(h, uint64(r.Region))) > 2 })},
	{"a region with more pointers to it than objects are held", some(func(h *heap.Heap, r census.Row) bool { return r.In > len(census.Held(h, uint64(r.Region)))+2 })},
	{"a region that holds others, and is held by none", some(func(_ *heap.Heap, r census.Row) bool { return r.In == 0 && r.Out > 2 })},
	{"a region that is held by others, and holds none", some(func(_ *heap.Heap, r census.Row) bool { return r.In > 2 && r.Out == 0 })},
}

// some is whether there is such a region.
func some(such func(h *heap.Heap, r census.Row) bool) func(h *heap.Heap, call string, e api.Errno, before []census.Row) bool {
	return func(h *heap.Heap, _ string, _ api.Errno, _ []census.Row) bool {
		return slices.ContainsFunc(census.Rows(h), func(r census.Row) bool { return such(h, r) })
	}
}

// came is how much all counts are together.
func came(rows []census.Row) int {
	n := 0
	for _, r := range rows {
		n += r.In
	}
	return n
}

// TestP20_1MixedRows: behind each call of long mixed rows each call here answers as is plainly counted; and all sorts of things are met in these rows.
func TestP20_1MixedRows(t *testing.T) {
	met := make([]int, len(often))
	var before []census.Row
	mixedRows(t, func(h *heap.Heap, call string, e api.Errno) {
		t.Helper()
		wantPlain(t, h)
		for i, one := range often {
			if met[i] < 20 && one.are(h, call, e, before) {
				met[i]++
			}
		}
		before = census.Rows(h)
	})
	for i, one := range often {
		if met[i] < 20 {
			t.Errorf("%s was met only %d times: the rows are too tame", one.name, met[i])
		}
	}
}

// TestP20_2MixedRows: behind each call of long mixed rows.
func TestP20_2MixedRows(t *testing.T) {
	mixedRows(t, func(h *heap.Heap, _ string, _ api.Errno) { t.Helper(); wantSums(t, h) })
}
