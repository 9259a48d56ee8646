package heap_test

import (
	"math"
	"slices"
	"testing"

	"kraal/api"
	"kraal/heap"
)

// huge are numbers that are no region's, no object's and no place's in heaps of which little was asked: among them such as, cut short or taken for signed ones, would be small ones, or below 0.
var huge = []uint64{
	1 << 14, 1<<14 + 1, 1<<16 + 1, 1<<31 - 1, 1 << 31, 1<<31 + 1, 1<<32 - 1, 1 << 32, 1<<32 + 1, 1<<32 + 2, 1<<32 + 17, 1 << 62, 1<<62 + 1,
	1<<63 - 1, 1 << 63, 1<<63 + 1, 1<<63 + 2, 1<<63 + 17, 1<<64 - 1<<32 + 1, math.MaxUint64 - 1, math.MaxUint64,
}

// answer is a call's name, and the error's number that it answered.
type answer struct {
	call string
	e    api.Errno
}

// pair is a heap, and a plain one that is told the same. met is how often each answer was met.
type pair struct {
	*testing.T
	heap  *heap.Heap
	plain *plain
	met   map[answer]int
}

// made is a pair of a configuration that may be.
func made(t *testing.T, c api.Config) *pair {
	t.Helper()
	h, e := heap.New(c)
	if h == nil || e != api.OK {
		t.Fatalf("New(%+v): got %v, %v", c, h, e)
	}
	return &pair{t, h, newPlain(c), map[answer]int{}}
}

// array is the head of an array.
func array(kind, n int) api.Head { return api.Head{Array: true, Kind: kind, N: n} }

// typed is the head of an object of that type.
func typed(number, n int) api.Head { return api.Head{Type: number, N: n} }

// desc is a type of these kinds.
func desc(kinds ...int) api.Desc { return api.Desc{Fields: kinds} }

// allKinds is a type that has a field of each kind: the number of the field is its kind's.
var allKinds = desc(api.Scalar, api.Counted, api.Same, api.Up)

func (p *pair) answered(call string, e api.Errno) { p.met[answer{call, e}]++ }

// newRegion, and the calls that follow, tell both the same, and hold what they answer against each other.
func (p *pair) newRegion(parent uint64) (uint64, api.Errno) {
	p.Helper()
	id, e := p.heap.Region(parent)
	if want, wantE := p.plain.newRegion(parent); id != want || e != wantE {
		p.Errorf("Region(%d): got %d, %v, want %d, %v", parent, id, e, want, wantE)
	}
	p.answered("Region", e)
	return id, e
}

func (p *pair) delete(id uint64) api.Errno {
	p.Helper()
	e := p.heap.Delete(id)
	if want := p.plain.delete(id); e != want {
		p.Errorf("Delete(%d): got %v, want %v", id, e, want)
	}
	p.answered("Delete", e)
	return e
}

func (p *pair) alloc(id uint64, h api.Head) (uint64, api.Errno) {
	p.Helper()
	at, e := p.heap.Alloc(id, h)
	if want, wantE := p.plain.alloc(id, h); at != want || e != wantE {
		p.Errorf("Alloc(%d, %+v): got %d, %v, want %d, %v", id, h, at, e, want, wantE)
	}
	p.answered("Alloc", e)
	return at, e
}

func (p *pair) set(at, i, v uint64) api.Errno {
	p.Helper()
	e := p.heap.Set(at, i, v)
	if want := p.plain.set(at, i, v); e != want {
		p.Errorf("Set(%d, %d, %d): got %v, want %v", at, i, v, e, want)
	}
	p.answered("Set", e)
	return e
}

func (p *pair) get(at, i uint64) {
	p.Helper()
	v, e := p.heap.Get(at, i)
	if want, wantE := p.plain.get(at, i); v != want || e != wantE {
		p.Errorf("Get(%d, %d): got %d, %v, want %d, %v", at, i, v, e, want, wantE)
	}
	p.answered("Get", e)
}

func (p *pair) setGlobal(i, v uint64) api.Errno {
	p.Helper()
	e := p.heap.SetGlobal(i, v)
	if want := p.plain.put(p.plain.globals, i, v); e != want {
		p.Errorf("SetGlobal(%d, %d): got %v, want %v", i, v, e, want)
	}
	p.answered("SetGlobal", e)
	return e
}

func (p *pair) global(i uint64) {
	p.Helper()
	v, e := p.heap.Global(i)
	if want, wantE := in(p.plain.globals, i); v != want || e != wantE {
		p.Errorf("Global(%d): got %d, %v, want %d, %v", i, v, e, want, wantE)
	}
	p.answered("Global", e)
}

func (p *pair) push(n uint64) api.Errno {
	p.Helper()
	e := p.heap.Push(n)
	if want := p.plain.push(n); e != want {
		p.Errorf("Push(%d): got %v, want %v", n, e, want)
	}
	p.answered("Push", e)
	return e
}

func (p *pair) pop() api.Errno {
	p.Helper()
	e := p.heap.Pop()
	if want := p.plain.pop(); e != want {
		p.Errorf("Pop: got %v, want %v", e, want)
	}
	p.answered("Pop", e)
	return e
}

func (p *pair) setSlot(i, v uint64) api.Errno {
	p.Helper()
	e := p.heap.SetSlot(i, v)
	if want := p.plain.setSlot(i, v); e != want {
		p.Errorf("SetSlot(%d, %d): got %v, want %v", i, v, e, want)
	}
	p.answered("SetSlot", e)
	return e
}

func (p *pair) slot(i uint64) {
	p.Helper()
	v, e := p.heap.Slot(i)
	if want, wantE := p.plain.slot(i); v != want || e != wantE {
		p.Errorf("Slot(%d): got %d, %v, want %d, %v", i, v, e, want, wantE)
	}
	p.answered("Slot", e)
}

func (p *pair) count(id uint64) {
	p.Helper()
	n, e := p.heap.Count(id)
	want, wantE := uint64(0), api.ErrNone
	if r := p.plain.region(id); r != nil {
		want, wantE = p.plain.counts()[r.id], api.OK
	}
	if n != want || e != wantE {
		p.Errorf("Count(%d): got %d, %v, want %d, %v", id, n, e, want, wantE)
	}
	p.answered("Count", e)
}

// wantRegion makes a region, of that number.
func (p *pair) wantRegion(parent, want uint64) {
	p.Helper()
	if id, e := p.newRegion(parent); id != want || e != api.OK {
		p.Fatalf("Region(%d): got %d, %v, want %d", parent, id, e, want)
	}
}

// wantAlloc makes an object, of that address.
func (p *pair) wantAlloc(id uint64, h api.Head, want uint64) {
	p.Helper()
	if at, e := p.alloc(id, h); at != want || e != api.OK {
		p.Fatalf("Alloc(%d, %+v): got %d, %v, want %d", id, h, at, e, want)
	}
}

// want: a call answered this number, as it should.
func (p *pair) want(what string, e, want api.Errno) {
	p.Helper()
	if e != want {
		p.Errorf("%s: got %v, want %v", what, e, want)
	}
	p.wantPlain()
}

// wantCounts: these are the counts of the regions 1, 2, and so on, as both tell it; below 0: such a region doesn't live.
func (p *pair) wantCounts(want ...int) {
	p.Helper()
	for i, n := range want {
		id := uint64(i + 1)
		got, e := p.heap.Count(id)
		if n < 0 && (got != 0 || e != api.ErrNone) || n >= 0 && (got != uint64(n) || e != api.OK) {
			p.Errorf("Count(%d): got %d, %v, want %d", id, got, e, n)
		}
	}
	p.wantPlain()
}

// wantPlain: all that the heap tells is as the plain one says.
func (p *pair) wantPlain() {
	p.Helper()
	p.wantObjects()
	p.wantPages()
	if got, want := p.heap.Roots(), p.plain.roots(); !slices.Equal(got, want) {
		p.Errorf("Roots: got %v, want %v", got, want)
	}
	if got, want := p.heap.Live(), p.plain.live(); !slices.Equal(got, want) {
		p.Errorf("Live: got %v, want %v", got, want)
	}
	counts := p.plain.counts()
	for _, r := range p.plain.regions {
		if n, e := p.heap.Count(uint64(r.id)); n != counts[r.id] || e != api.OK {
			p.Errorf("Count(%d): got %d, %v, want %d", r.id, n, e, counts[r.id])
		}
	}
	p.count(0)
	p.count(uint64(p.plain.last) + 1)
}

func (p *pair) wantObjects() {
	p.Helper()
	if got, want := p.heap.Objects(), p.plain.objects(); !slices.EqualFunc(got, want, sameObject) {
		p.Errorf("Objects: got %+v, want %+v", got, want)
	}
}

func sameObject(a, b api.Object) bool {
	return a.At == b.At && a.Region == b.Region && a.Head == b.Head && slices.Equal(a.Kinds, b.Kinds) && slices.Equal(a.Values, b.Values)
}

// wantPages: Free, Len, Pages of each number that was given out and of the ones about these, and Of of each word, and of some that aren't there.
func (p *pair) wantPages() {
	p.Helper()
	if got, want := p.heap.Free(), p.plain.free(); got != want {
		p.Errorf("Free: got %d, want %d", got, want)
	}
	if got, want := p.heap.Len(), len(p.plain.owners); got != want {
		p.Errorf("Len: got %d, want %d", got, want)
	}
	for id := range p.plain.last + 2 {
		var want []api.Run
		if r := p.plain.region(uint64(id)); r != nil {
			want = p.plain.pages(id)
		}
		if got := p.heap.Pages(uint64(id)); !slices.Equal(got, want) {
			p.Errorf("Pages(%d): got %v, want %v", id, got, want)
		}
	}
	for at := range uint64(16*len(p.plain.owners) + 2) {
		if got, want := p.heap.Of(at), p.plain.of(at); got != want {
			p.Errorf("Of(%d): got %d, want %d", at, got, want)
		}
	}
}

// wantFields: Get of each field of each object, and of the place behind the last one, and Global and Slot of each slot likewise.
func (p *pair) wantFields() {
	p.Helper()
	for _, o := range p.plain.objects() {
		for i := range uint64(len(o.Kinds) + 1) {
			p.get(uint64(o.At), i)
		}
	}
	for i := range uint64(len(p.plain.globals) + 1) {
		p.global(i)
	}
	for i := range uint64(18) {
		p.slot(i)
	}
}

// mixed is a row of numbers that come in no order that is plain to see, always the same.
type mixed uint64

// next is the next number, below that one.
func (m *mixed) next(under int) int {
	*m = *m*6364136223846793005 + 1442695040888963407
	return int(uint64(*m) >> 33 % uint64(under))
}
