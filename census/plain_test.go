package census_test

import (
	"math"
	"reflect"
	"slices"
	"testing"

	"kraal/api"
	"kraal/census"
	"kraal/heap"
)

// huge are numbers that are no region's: among them such as, cut short or taken for signed ones, would be small ones, or below 0.
var huge = []uint64{1 << 31, 1<<31 + 1, 1<<32 - 1, 1 << 32, 1<<32 + 1, 1<<32 + 2, 1 << 62, 1<<63 - 1, 1 << 63, 1<<63 + 1, 1<<63 + 2, 1<<64 - 1<<32 + 1, math.MaxUint64 - 1, math.MaxUint64}

// plain is what a heap tells of itself. All that is counted here is counted over that, in the simplest way.
type plain struct {
	live      []int
	objects   []api.Object
	roots     []uint64
	counts    []uint64
	pages     [][]api.Run
	free, len int
}

// told is what a heap tells.
func told(h *heap.Heap) plain {
	p := plain{live: h.Live(), objects: h.Objects(), roots: h.Roots(), free: h.Free(), len: h.Len()}
	for _, id := range p.live {
		n, _ := h.Count(uint64(id))
		p.counts = append(p.counts, n)
		p.pages = append(p.pages, h.Pages(uint64(id)))
	}
	return p
}

// pointer is one that isn't 0: whose field it is (0: it is a root), of which kind, and where it points.
type pointer struct {
	holder, kind int
	to           uint64
}

// pointers are all of them.
func (p plain) pointers() []pointer {
	var all []pointer
	for _, v := range p.roots {
		if v != 0 {
			all = append(all, pointer{0, api.Counted, v})
		}
	}
	for _, o := range p.objects {
		for i, kind := range o.Kinds {
			if kind != api.Scalar && o.Values[i] != 0 {
				all = append(all, pointer{o.Region, kind, o.Values[i]})
			}
		}
	}
	return all
}

// target is whose the object is that begins there; 0, if none does.
func (p plain) target(v uint64) int {
	for _, o := range p.objects {
		if uint64(o.At) == v {
			return o.Region
		}
	}
	return 0
}

// outside are the pointers that are counted: to an object of another region than the one that holds them.
func (p plain) outside() []pointer {
	var all []pointer
	for _, one := range p.pointers() {
		if to := p.target(one.to); one.kind == api.Counted && to != 0 && to != one.holder {
			all = append(all, one)
		}
	}
	return all
}

// rows are the rows of all regions.
func (p plain) rows() []census.Row {
	var rows []census.Row
	outside := p.outside()
	for i, id := range p.live {
		row := census.Row{Region: id}
		for _, o := range p.objects {
			if o.Region == id {
				row.Objects++
				row.Words += 1 + max(len(o.Values), 1)
			}
		}
		for _, run := range p.pages[i] {
			row.Pages += run.N
		}
		for _, one := range outside {
			if one.holder == id {
				row.Out++
			}
			if p.target(one.to) == id {
				row.In++
			}
		}
		rows = append(rows, row)
	}
	return rows
}

// audit tells whether all is as it should be.
func (p plain) audit() bool {
	n := p.free
	for i, row := range p.rows() {
		if p.counts[i] != uint64(row.In) {
			return false
		}
		n += row.Pages
	}
	for _, one := range p.pointers() {
		if p.target(one.to) == 0 {
			return false
		}
	}
	return n == p.len
}

// held are the objects of a region to which something points from outside.
func (p plain) held(region uint64) []uint64 {
	var held []uint64
	for _, one := range p.outside() {
		if uint64(p.target(one.to)) == region && !slices.Contains(held, one.to) {
			held = append(held, one.to)
		}
	}
	slices.Sort(held)
	return held
}

// numbers are those of all regions that live, some about them, and some huge ones.
func (p plain) numbers() []uint64 {
	n := uint64(0)
	for _, id := range p.live {
		n = max(n, uint64(id))
	}
	all := []uint64{1 << 31, 1<<32 + 1, 1 << 63, math.MaxUint64}
	for id := range n + 3 {
		all = append(all, id)
	}
	return all
}

// wantPlain: each call answers what is counted over what the heap tells, and changes nothing of that.
func wantPlain(t *testing.T, h *heap.Heap) {
	t.Helper()
	p := told(h)
	if got, want := census.Rows(h), p.rows(); !slices.Equal(got, want) {
		t.Errorf("Rows: got %+v, want %+v", got, want)
	}
	if !census.Audit(h) || !p.audit() {
		t.Errorf("Audit: got %v, and plainly counted %v", census.Audit(h), p.audit())
	}
	for _, region := range p.numbers() {
		wantHeld(t, h, region, p.held(region)...)
	}
	if then := told(h); !reflect.DeepEqual(then, p) {
		t.Errorf("the heap was changed: it told %+v, and then %+v", p, then)
	}
}

// wantRows: these are the rows, and all else is as plainly counted.
func wantRows(t *testing.T, h *heap.Heap, want ...census.Row) {
	t.Helper()
	if got := census.Rows(h); !slices.Equal(got, want) {
		t.Errorf("Rows: got %+v, want %+v", got, want)
	}
	wantPlain(t, h)
}

func wantHeld(t *testing.T, h *heap.Heap, region uint64, want ...uint64) {
	t.Helper()
	if got := census.Held(h, region); !slices.Equal(got, want) {
		t.Errorf("Held of %d: got %v, want %v", region, got, want)
	}
}

// row is the row of a region; in and out, if there are any, stand last.
func row(region, objects, words, pages int, inOut ...int) census.Row {
	r := census.Row{Region: region, Objects: objects, Words: words, Pages: pages}
	if len(inOut) > 0 {
		r.In, r.Out = inOut[0], inOut[1]
	}
	return r
}

// array is the head of an array.
func array(kind, n int) api.Head { return api.Head{Array: true, Kind: kind, N: n} }

// typed is the head of an object of that type.
func typed(number, n int) api.Head { return api.Head{Type: number, N: n} }

// desc is a type of these kinds.
func desc(kinds ...int) api.Desc { return api.Desc{Fields: kinds} }

// allKinds is a type that has a field of each kind: the number of the field is its kind's.
var allKinds = desc(api.Scalar, api.Counted, api.Same, api.Up)

// made is a heap of a configuration that may be, with a region below each of these.
func made(t *testing.T, c api.Config, parents ...uint64) *heap.Heap {
	t.Helper()
	h, e := heap.New(c)
	if e != api.OK {
		t.Fatalf("New(%+v): got %v", c, e)
	}
	for _, parent := range parents {
		if _, e := h.Region(parent); e != api.OK {
			t.Fatalf("Region(%d): got %v", parent, e)
		}
	}
	return h
}

// alloc makes an object, at that place.
func alloc(t *testing.T, h *heap.Heap, region uint64, head api.Head, want uint64) {
	t.Helper()
	if at, e := h.Alloc(region, head); at != want || e != api.OK {
		t.Fatalf("Alloc(%d, %+v): got %d, %v, want %d", region, head, at, e, want)
	}
}

// done: calls were answered OK.
func done(t *testing.T, answers ...api.Errno) {
	t.Helper()
	for i, e := range answers {
		if e != api.OK {
			t.Fatalf("call %d was answered %v", i, e)
		}
	}
}

// beside is a heap with the regions 1; 2 and 3 below 1; 4 below 2; and 5 beside them all. In each is an object with a field of each kind, at 1, 17, 33, 49 and 65, and an array of three counted pointers behind it: at 6, 22, 38, 54 and 70. It has two globals, and a page that is free.
func beside(t *testing.T) *heap.Heap {
	t.Helper()
	h := made(t, api.Config{Pages: 6, Globals: 2, Types: []api.Desc{allKinds}}, 0, 1, 1, 2, 0)
	for i := range uint64(5) {
		alloc(t, h, i+1, typed(0, 4), 16*i+1)
		alloc(t, h, i+1, array(api.Counted, 3), 16*i+6)
	}
	return h
}

// wantInOut: what comes into the regions 1, 2, and so on of the heap beside, and what goes out of them.
func wantInOut(t *testing.T, h *heap.Heap, in, out []int) {
	t.Helper()
	var want []census.Row
	for i := range in {
		want = append(want, row(i+1, 2, 9, 1, in[i], out[i]))
	}
	wantRows(t, h, want...)
}
