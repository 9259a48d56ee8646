package heap_test

import (
	"math"
	"reflect"
	"slices"
	"testing"

	"kraal/api"
	"kraal/heap"
)

// busy is a pair in which there is something of all sorts.
func busy(t *testing.T) *pair {
	t.Helper()
	p := beside(t)
	p.set(17, 0, 99)
	p.set(17, 1, 65)
	p.set(17, 2, 22)
	p.set(17, 3, 1)
	p.set(70, 2, 49)
	p.alloc(3, array(api.Scalar, 0))
	p.setGlobal(1, 33)
	p.push(3)
	p.setSlot(1, 65)
	p.push(0)
	p.push(1)
	p.setSlot(0, 38)
	return p
}

// wantSame: all that the heap tells is as the plain one says.
func (p *pair) wantSame() {
	p.Helper()
	p.wantPlain()
	p.wantFields()
	p.wantSwept()
	p.wantAllPages()
}

// TestR1WrongNumbers: each call ends, whatever number is handed in, and answers as the plain heap does.
func TestR1WrongNumbers(t *testing.T) {
	p := busy(t)
	numbers := append([]uint64{0, 1, 2, 15, 16, 17, 18, 32, 64, 65, 95, 96, 97}, huge...)
	for _, a := range numbers {
		p.newRegion(a)
		p.count(a)
		p.push(a)
		p.global(a)
		p.slot(a)
		p.alloc(a, array(api.Scalar, 1))
		p.alloc(a, array(9, -1))
		if got, want := p.heap.Of(a), p.plain.of(a); got != want {
			t.Errorf("Of(%d): got %d, want %d", a, got, want)
		}
		if r := p.plain.region(a); r == nil && len(p.heap.Pages(a)) != 0 {
			t.Errorf("Pages(%d): got %v", a, p.heap.Pages(a))
		}
		for _, b := range numbers {
			p.get(a, b)
			p.set(a, b, b)
			p.set(a, 1, b)
			p.set(17, a, b)
			p.setGlobal(a, b)
			p.setSlot(a, b)
		}
		p.wantSame()
	}
	for _, a := range numbers {
		p.delete(a)
		p.wantSame()
	}
}

// TestR1WrongHeads: heads with parts that are none, of a region that lives and of one that doesn't.
func TestR1WrongHeads(t *testing.T) {
	p := busy(t)
	for _, n := range wrongParts {
		for _, h := range []api.Head{array(n, 1), array(1, n), typed(n, 4), typed(0, n), {Array: true, Type: n, N: 1}, {Kind: n, N: 4}, {Array: true, Kind: n, Type: n, N: n}, {Kind: n, Type: n, N: n}} {
			for _, id := range []uint64{1, 6, 1 << 63} {
				if at, e := p.alloc(id, h); at != 0 || e == api.OK {
					t.Errorf("Alloc(%d, %+v): got %d, %v", id, h, at, e)
				}
			}
		}
	}
	p.wantSame()
}

// TestR2RefusedChangesNothing: what is refused, many times over, changes nothing that is told, and none of the places and numbers that come next.
func TestR2RefusedChangesNothing(t *testing.T) {
	p := busy(t)
	for range 10 {
		p.newRegion(99)
		p.delete(1)
		p.delete(5)
		p.alloc(1, array(api.Counted, 4000))
		p.alloc(1, api.Head{Array: true, Type: 1, N: 3})
		p.set(17, 1, 66)
		p.set(17, 2, 65)
		p.set(17, 3, 49)
		p.set(17, 4, 0)
		p.setGlobal(0, 2)
		p.setGlobal(2, 1)
		p.push(17)
		p.setSlot(0, 2)
		p.setSlot(1, 1)
		p.wantSame()
	}
	p.wantRegion(0, 6)
	p.wantAlloc(6, array(api.Counted, 1), 81)
	p.wantAlloc(1, array(api.Counted, 5), 10)
}

// TestR3ObjectsAreNew: who writes into what Objects answers, and into kinds and values of objects, or behind their ends, changes no other answer, and no object.
func TestR3ObjectsAreNew(t *testing.T) {
	p := busy(t)
	first, second := p.heap.Objects(), p.heap.Objects()
	for i := range first {
		o := &first[i]
		for j := range o.Kinds {
			o.Kinds[j], o.Values[j] = -7, 7
		}
		_, _ = append(o.Kinds, 9), append(o.Values, 9)
		o.At, o.Region, o.Head = -1, -1, api.Head{}
	}
	_ = append(first[:0], api.Object{})
	if !slices.EqualFunc(second, p.plain.objects(), sameObject) {
		t.Errorf("another answer was changed: %+v", second)
	}
	p.wantSame()
	p.wantAlloc(1, typed(0, 4), 10)
	p.wantSame()
}

// TestR3ListsAreNew: likewise of Roots, Live and Pages.
func TestR3ListsAreNew(t *testing.T) {
	p := busy(t)
	for range 3 {
		roots, live, runs := p.heap.Roots(), p.heap.Live(), p.heap.Pages(1)
		clear(roots)
		clear(live)
		clear(runs)
		_, _, _ = append(roots, 9), append(live, 9), append(runs, api.Run{From: 9, N: 9})
		_, _, _ = append(roots[:0], 9), append(live[:0], 9), append(runs[:0], api.Run{From: 9, N: 9})
		p.wantSame()
	}
}

// TestR3AnswersStay: what was answered stays, whatever is done then.
func TestR3AnswersStay(t *testing.T) {
	p := busy(t)
	objects, roots, live, runs := p.heap.Objects(), p.heap.Roots(), p.heap.Live(), p.heap.Pages(1)
	was := busy(t)
	p.set(17, 0, 5)
	p.set(17, 1, 1)
	p.setSlot(0, 0)
	p.setGlobal(0, 65)
	p.pop()
	p.alloc(1, array(api.Scalar, 16))
	p.delete(4)
	p.newRegion(0)
	if !slices.EqualFunc(objects, was.plain.objects(), sameObject) || !slices.Equal(roots, was.plain.roots()) || !slices.Equal(live, was.plain.live()) || !slices.Equal(runs, was.plain.pages(1)) {
		t.Errorf("an answer changed later: %+v, %v, %v, %v", objects, roots, live, runs)
	}
	p.wantSame()
}

// TestR4NilIsEmpty: what there is nothing of is an empty list, or none.
func TestR4NilIsEmpty(t *testing.T) {
	p := made(t, api.Config{Pages: 1})
	for range 2 {
		if h := p.heap; len(h.Objects()) != 0 || len(h.Roots()) != 0 || len(h.Live()) != 0 || len(h.Pages(0)) != 0 || len(h.Pages(1)) != 0 {
			t.Errorf("of nothing: got %v, %v, %v, %v", h.Objects(), h.Roots(), h.Live(), h.Pages(1))
		}
		p.wantSame()
		p.push(0)
	}
	p.newRegion(0)
	p.wantSame()
}

// TestR5SameAgain: the same calls on two heaps answer the same, whatever is asked of the one in between, and whatever a third one is told.
func TestR5SameAgain(t *testing.T) {
	for _, s := range shapes[:4] {
		m, n, o := mixed(77), mixed(77), mixed(5)
		p, q, other := made(t, s.config), made(t, s.config), made(t, s.config)
		for step := range 600 {
			rising := step/s.turn%2 == 0
			mixedCall(&m, p, rising, s.some)
			p.wantSame()
			mixedCall(&n, q, rising, s.some)
			mixedCall(&o, other, !rising, s.some)
			if !slices.EqualFunc(p.heap.Objects(), q.heap.Objects(), sameObject) || !slices.Equal(p.heap.Roots(), q.heap.Roots()) || p.heap.Free() != q.heap.Free() {
				t.Fatalf("%s: call %d: two heaps that were told the same differ", s.name, step)
			}
			if t.Failed() {
				t.Fatalf("%s: call %d", s.name, step)
			}
		}
	}
}

// TestR6NothingElseIsLent: a heap lends no calls but the chapter's: none by which somebody takes its pages, or writes its words.
func TestR6NothingElseIsLent(t *testing.T) {
	want := []string{"Alloc", "Count", "Delete", "Free", "Get", "Global", "Len", "Live", "Objects", "Of", "Pages", "Pop", "Push", "Region", "Roots", "Set", "SetGlobal", "SetSlot", "Slot"}
	var got []string
	of := reflect.TypeFor[*heap.Heap]()
	for i := range of.NumMethod() {
		got = append(got, of.Method(i).Name)
	}
	if !slices.Equal(got, want) {
		t.Errorf("got %v, want %v", got, want)
	}
	for i := range of.Elem().NumField() {
		if f := of.Elem().Field(i); f.IsExported() {
			t.Errorf("a heap has the field %s", f.Name)
		}
	}
}

// TestR6ScalarsAreWhole: every word may stand in a scalar, and none of them is taken for a head, wherever it stands.
func TestR6ScalarsAreWhole(t *testing.T) {
	p := made(t, api.Config{Pages: 2})
	p.wantRegion(0, 1)
	p.wantAlloc(1, array(api.Scalar, 14), 1)
	for i := range uint64(14) {
		p.set(1, i, 65536*(i%3)+1+2*(i%2))
	}
	p.set(1, 13, math.MaxUint64)
	for at := range uint64(34) {
		p.get(at, 0)
	}
	p.wantAlloc(1, array(api.Counted, 1), 17)
	p.wantSame()
}
