package slot_test

import (
	"slices"
	"testing"

	"kraal/api"
	"kraal/slot"
)

// roomy is an object whose lists have room behind their ends; what stands there is somebody else's.
func roomy() (o api.Object, kinds []int, values []uint64) {
	kinds, values = []int{0, 1, 2, 3, 8, 8}, []uint64{1, 2, 3, 4, 9, 9}
	return thing(3, kinds[:4], values[:4]), kinds, values
}

// spoil writes into all that an object's lists have, and behind their ends.
func spoil(o api.Object) {
	for i := range o.Kinds {
		o.Kinds[i] = -7
	}
	for i := range o.Values {
		o.Values[i] = 1 << 50
	}
	_, _ = append(o.Kinds, -7), append(o.Values, 1<<50)
}

// TestR3AnswersAreNew: who writes into what is answered changes neither what was handed in, nor the memory, nor another answer.
func TestR3AnswersAreNew(t *testing.T) {
	for i := range uint64(4) {
		y := newLand(t, 12)
		o, kinds, values := roomy()
		was := copied(o)
		x, _ := y.store(o, i, 70)
		z, _ := y.store(o, i, 71)
		kept := copied(z)
		spoil(x)
		y.wantSame(o, was)
		y.wantSame(z, kept)
		y.wantCells()
		if kinds[4] != 8 || kinds[5] != 8 || values[4] != 9 || values[5] != 9 {
			t.Errorf("what stands behind the lists was changed: %v, %v", kinds, values)
		}
	}
	o, kinds, _ := roomy()
	l := slot.Pointers(o)
	other := slot.Pointers(o)
	for i := range l {
		l[i] = -9
	}
	_ = append(l, -9)
	if !slices.Equal(kinds, []int{0, 1, 2, 3, 8, 8}) || !slices.Equal(other, []int{1, 2, 3}) {
		t.Errorf("writing into what Pointers answered: kinds %v, another answer %v", kinds, other)
	}
	wantPointers(t, o, 1, 2, 3)
}

// TestR3AnswersStay: what was answered stays, whoever writes into what was handed in, or into the memory.
func TestR3AnswersStay(t *testing.T) {
	for i := range uint64(4) {
		for n := range 6 {
			y := newLand(t, 12)
			o := thing(3, []int{0, 1, 2, 3}, valuesFrom(1, n))
			x, _ := y.store(o, i, 70)
			l := slot.Pointers(o)
			want := copied(x)
			spoil(o)
			for at := range y.cells {
				_ = y.mem.Write(at, 5)
			}
			if !alike(x, want) || !slices.Equal(l, []int{1, 2, 3}) {
				t.Errorf("got %+v and %v, want %+v", x, l, want)
			}
		}
	}
}

// TestR3HandedInStays: what is handed in isn't changed, also behind its lists' ends, with an error or without.
func TestR3HandedInStays(t *testing.T) {
	y := newLand(t, 5)
	for _, at := range []int{0, 3, 5, -1, -9} {
		o, kinds, values := roomy()
		o.At = at
		for _, i := range slices.Concat([]uint64{0, 1, 2, 3, 4, 5, 6}, wrongNumbers) {
			_, _, _ = slot.At(o, i)
			y.load(o, i)
			y.store(o, i, 66)
			_, _ = slot.Store(nil, o, i, 66)
			_ = slot.Pointers(o)
		}
		if !slices.Equal(kinds, []int{0, 1, 2, 3, 8, 8}) || !slices.Equal(values, []uint64{1, 2, 3, 4, 9, 9}) {
			t.Errorf("what was handed in was changed: %v, %v", kinds, values)
		}
	}
}

// TestR3NothingIsKept: a store doesn't hang on what another object was told, nor on what stood in the one that was handed in before.
func TestR3NothingIsKept(t *testing.T) {
	y := newLand(t, 12)
	o := thing(3, []int{0, 1, 2}, []uint64{1, 2, 3})
	y.store(o, 0, 70)
	o.Kinds[0], o.Values[0], o.Values[1] = 3, 40, 50
	wantAt(t, o, 0, 3, 3)
	wantPointers(t, o, 0, 1, 2)
	y.wantStore(o, 2, 71, thing(3, []int{3, 1, 2}, []uint64{40, 50, 71}))
	y.wantLoad(o, 0, 70)
}

// TestR4NilIsEmpty: lists that are nil are the same as empty ones.
func TestR4NilIsEmpty(t *testing.T) {
	y := newLand(t, 12)
	for _, kinds := range [][]int{nil, {}} {
		for _, values := range [][]uint64{nil, {}, {1, 2}} {
			o := thing(3, kinds, values)
			wantNotAt(t, o, 0)
			y.wantNeither(o, 0, api.ErrRange)
			wantPointers(t, o)
		}
	}
	for _, values := range [][]uint64{nil, {}} {
		o := thing(3, []int{1, 0}, values)
		wantAt(t, o, 1, 4, 0)
		y.wantStore(o, 1, 9, thing(3, []int{1, 0}, nil))
		y.wantLoad(o, 1, 9)
		wantPointers(t, o, 0)
	}
}

// TestR5SameAgain: what is answered doesn't hang on what was asked before, of this memory or of another one.
func TestR5SameAgain(t *testing.T) {
	y, other := newLand(t, 12), newLand(t, 4)
	o := thing(3, []int{0, 1, 2, 3}, []uint64{1, 2, 3, 4})
	for range 3 {
		other.wantNeither(o, 1, api.ErrRange)
		other.wantStore(o, 0, 80, thing(3, o.Kinds, []uint64{80, 2, 3, 4}))
		y.wantNeither(o, 4, api.ErrRange)
		y.wantStore(o, 2, 81, thing(3, o.Kinds, []uint64{1, 2, 81, 4}))
		y.wantLoad(o, 0, 3+1<<40)
		wantAt(t, o, 3, 6, 3)
		wantPointers(t, o, 1, 2, 3)
	}
}
