package heap_test

import (
	"math"
	"slices"
	"testing"

	"kraal/api"
)

// wrongParts are numbers that are no kind's, no type's, and not how many fields an object has.
var wrongParts = []int{-1, -2, -4, -1 << 31, -1 << 32, -1<<32 + 1, math.MinInt, math.MinInt + 1, 4001, 4002, 1<<16 + 1, 1<<31 - 1, 1 << 31, 1 << 32, 1<<32 + 1, 1<<62 + 1, math.MaxInt}

// wantRefused: nothing is allocated, for this reason, and nothing is changed.
func (p *pair) wantRefused(id uint64, h api.Head, want api.Errno) {
	p.Helper()
	if at, e := p.alloc(id, h); at != 0 || e != want {
		p.Errorf("Alloc(%d, %+v): got %d, %v, want 0, %v", id, h, at, e, want)
	}
	p.wantPlain()
}

// TestP19_1AllocErrors: layer 7's errors of the head, then layer 8's, then that there is no room; ahead of all of them that the region doesn't live.
func TestP19_1AllocErrors(t *testing.T) {
	p := made(t, api.Config{Pages: 1, Types: []api.Desc{allKinds, desc(1)}})
	p.wantRegion(0, 1)
	p.wantAlloc(1, array(api.Counted, 15), 1)
	none := []api.Head{typed(2, 4), typed(2, 1), typed(-1, 4), typed(31, 1), typed(32, 1), {Type: 2, Kind: 9}}
	kind := []api.Head{array(4, 1), array(-1, 1), array(4, 4001), array(4, -1), {Array: true, Kind: 4, Type: 1}}
	arg := []api.Head{
		array(0, -1), array(0, 4001), array(3, -4000), {Array: true, Type: 1, N: -1}, typed(0, 3), typed(0, 5), typed(0, 0), typed(0, -4), typed(1, 4), {N: 3, Kind: 1}, // layer 7's
		{Array: true, Type: 1}, {Array: true, Type: 1, N: 20}, {Array: true, Type: -1, N: 1}, {Array: true, Type: math.MinInt, N: 4000}, {N: 4, Kind: 1}, {Type: 1, N: 1, Kind: -1}, {N: 4, Kind: 4}, // layer 8's
	}
	full := []api.Head{array(0, 0), array(1, 1), array(2, 16), array(3, 4000), typed(0, 4), typed(1, 1)}
	for want, heads := range map[api.Errno][]api.Head{api.ErrNone: none, api.ErrKind: kind, api.ErrArg: arg, api.ErrFull: full} {
		for _, h := range heads {
			p.wantRefused(1, h, want)
			p.wantRefused(2, h, api.ErrNone)
			p.wantRefused(0, h, api.ErrNone)
		}
	}
}

// TestP19_1AllocEveryHead: every head of small parts, and of wrong ones, against the plain heap.
func TestP19_1AllocEveryHead(t *testing.T) {
	p := made(t, api.Config{Pages: 1024, Types: fourTypes})
	p.wantRegion(0, 1)
	parts := append([]int{0, 1, 2, 3, 4, 5}, wrongParts...)
	for _, isArray := range []bool{false, true} {
		for _, kind := range parts {
			for _, number := range parts {
				for _, n := range append([]int{21}, parts...) {
					p.alloc(1, api.Head{Array: isArray, Kind: kind, Type: number, N: n})
				}
			}
		}
	}
	p.wantPlain()
	p.wantFields()
	if len(p.heap.Objects()) < 20 {
		t.Errorf("only these were made: %+v", p.heap.Objects())
	}
}

// TestP19_1AllocEverySize: arrays of every length up to three pages' words, and of the greatest lengths, of each kind, in heaps of one page, of two, of many; then each once more.
func TestP19_1AllocEverySize(t *testing.T) {
	var sizes []int
	for n := range 50 {
		sizes = append(sizes, n)
	}
	for _, pages := range []int{1, 2, 3, 5, 250, 251, 502, 1024} {
		for i, n := range append(sizes, 3983, 3984, 3998, 3999, 4000) {
			p := made(t, api.Config{Pages: pages})
			p.wantRegion(0, 1)
			p.wantRegion(0, 2)
			for range 2 {
				p.alloc(1, array(i%4, n))
				p.alloc(2, array((i+1)%4, n))
				p.alloc(1, array(i%4, 3))
				p.wantPlain()
			}
		}
	}
}

// TestP19_1AllocTypes: objects of types of one field up to 60.
func TestP19_1AllocTypes(t *testing.T) {
	for n := 1; n <= 60; n++ {
		kinds := make([]int, n)
		for i := range kinds {
			kinds[i] = (i + n) % 4
		}
		p := made(t, api.Config{Pages: 12, Types: []api.Desc{desc(1), desc(kinds...)}})
		p.wantRegion(0, 1)
		p.wantAlloc(1, typed(1, n), 1)
		p.alloc(1, typed(0, 1))
		p.alloc(1, typed(1, n))
		p.wantPlain()
		p.wantFields()
		p.wantRefused(1, typed(1, n+1), api.ErrArg)
		p.wantRefused(1, typed(1, n-1), api.ErrArg)
	}
}

// TestP19_1AllocInOrder: objects are told in the order in which they were made, also where a small one comes behind a large one, and stands ahead of it.
func TestP19_1AllocInOrder(t *testing.T) {
	p := made(t, api.Config{Pages: 6})
	p.wantRegion(0, 1)
	p.wantRegion(0, 2)
	p.wantAlloc(2, array(1, 1), 1)
	p.wantAlloc(1, array(2, 3), 17)
	p.wantAlloc(1, array(1, 20), 33)
	p.wantAlloc(1, array(3, 1), 21)
	p.wantAlloc(2, array(0, 30), 65)
	p.wantAlloc(2, array(0, 0), 3)
	p.wantAlloc(1, array(0, 9), 23)
	var told []int
	for _, o := range p.heap.Objects() {
		told = append(told, o.At)
	}
	if want := []int{17, 33, 21, 23, 1, 65, 3}; !slices.Equal(told, want) {
		t.Errorf("Objects: got %v, want %v", told, want)
	}
	p.wantPlain()
}

// TestP19_1AllocRegionsApart: each region has a page of its own for small objects, in whichever order they are made.
func TestP19_1AllocRegionsApart(t *testing.T) {
	p := made(t, api.Config{Pages: 4, Types: []api.Desc{desc(0, 0)}})
	for id := range uint64(4) {
		p.wantRegion(0, id+1)
	}
	for i := range uint64(5) {
		for id := uint64(4); id > 0; id-- {
			p.wantAlloc(id, typed(0, 2), (4-id)*16+3*i+1)
			p.wantPlain()
		}
	}
	p.wantRefused(2, array(0, 0), api.ErrFull)
	p.want("Delete(3)", p.delete(3), api.OK)
	p.wantAlloc(2, array(0, 0), 17)
	p.wantPlain()
}

// fill has all scalars be these words, of all objects.
func (p *pair) fill(v uint64) {
	p.Helper()
	for _, o := range p.plain.objects() {
		for i := range o.Kinds {
			p.set(uint64(o.At), uint64(i), v)
		}
	}
}

// TestP19_1FreshFields: they are 0, whatever stood in their pages before: other objects' fields, or their heads, or what stood behind these.
func TestP19_1FreshFields(t *testing.T) {
	p := made(t, api.Config{Pages: 260})
	for _, n := range []int{0, 1, 2, 7, 14, 15, 16, 31, 47, 4000} {
		for _, then := range []int{0, 1, 3, 14, 15, 16, 30, 31, 32, 3999, 4000} {
			p.newRegion(0)
			id := uint64(p.plain.last)
			for range 3 {
				p.alloc(id, array(api.Scalar, n))
			}
			p.fill(math.MaxUint64)
			p.want("Delete", p.delete(id), api.OK)
			p.newRegion(0)
			id++
			for kind := range 4 {
				p.alloc(id, array(kind, then))
			}
			p.wantPlain()
			for _, o := range p.heap.Objects() {
				if slices.ContainsFunc(o.Values, func(v uint64) bool { return v != 0 }) {
					t.Fatalf("%d fields, in pages of objects of %d: %+v", then, n, o)
				}
			}
			p.want("Delete", p.delete(id), api.OK)
		}
	}
}

// TestP19_1AddressesGo: what was an object's address, and its fields' places, are none's when its region went, until an object begins there again.
func TestP19_1AddressesGo(t *testing.T) {
	p := made(t, api.Config{Pages: 4})
	p.wantRegion(0, 1)
	p.wantAlloc(1, array(0, 2), 1)
	p.wantAlloc(1, array(0, 30), 17)
	p.wantAlloc(1, array(0, 5), 4)
	p.want("Delete(1)", p.delete(1), api.OK)
	gone := func(list ...uint64) {
		t.Helper()
		for _, at := range list {
			if _, e := p.heap.Get(at, 0); e != api.ErrPtr {
				t.Errorf("Get(%d, 0): got %v", at, e)
			}
			p.want("Set", p.set(at, 0, 1), api.ErrPtr)
		}
	}
	gone(1, 2, 4, 17)
	p.wantRegion(0, 2)
	gone(1, 4, 17)
	p.wantAlloc(2, array(0, 3), 1)
	p.wantAlloc(2, array(1, 3), 5)
	gone(4, 17, 2)
	p.wantFields()
	p.wantAlloc(2, array(1, 31), 17)
	p.wantFields()
}
