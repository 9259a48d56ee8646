package walk_test

import (
	"math"
	"slices"
	"testing"

	"kraal/api"
)

// mayNot are heads that may not be.
var mayNot = []api.Head{
	{}, array(0, -1), array(3, -2), array(0, 4001), array(4, 0), array(4, 1), array(-1, 1), array(1<<32, 1), array(0, math.MinInt), array(0, math.MaxInt), array(1, 1<<32+2),
	object(0, 0), object(31, 0), object(0, -1), object(0, 61), object(32, 1), object(-1, 1), object(0, math.MinInt), object(0, math.MaxInt), object(1<<32+1, 2), object(1, 1<<32+2),
	{Array: true, Type: 1}, {Array: true, Type: 1, N: 1}, {Array: true, Type: -1, N: 1}, {Kind: 1, N: 1}, {Kind: -1, Type: 1, N: 2}, {Kind: 3, Type: 1, N: 2},
}

// TestP12_1PutMayNot: heads that may not be, at runs of every size, those that aren't there as well: no word is changed.
func TestP12_1PutMayNot(t *testing.T) {
	y := newLand(t, 80)
	for _, h := range mayNot {
		for _, from := range slices.Concat([]int{0, 1, 40, 78, 79, 80}, huge) {
			for _, n := range slices.Concat([]int{0, 1, 2, 3, 61, 62, h.N, h.N + 1}, huge) {
				y.wantPut(run(from, n), h, api.ErrArg)
			}
		}
	}
}

// TestP12_1PutSizes: a run of just so many words as the head's size, and of one fewer, one more and any other number.
func TestP12_1PutSizes(t *testing.T) {
	for _, h := range allSorts() {
		size := sizeOf(h)
		for _, n := range slices.Concat([]int{0, 1, h.N, size - 2, size - 1, size + 1, size + 2, size + 1<<32, -size}, huge) {
			y := newLand(t, 310)
			for _, from := range slices.Concat([]int{0, 3, 309, 310}, huge) {
				if n != size {
					y.wantPut(run(from, n), h, api.ErrArg)
				}
			}
		}
		y := newLand(t, 310)
		y.wantPut(run(3, size), h, api.OK)
	}
}

// TestP12_1PutEdges: at the first words and at the last ones; one word behind that, and one ahead of it, there is no such run.
func TestP12_1PutEdges(t *testing.T) {
	for _, h := range allSorts() {
		size := sizeOf(h)
		for _, n := range []int{size, size + 1, size + 40} {
			y := newLand(t, n)
			for _, from := range slices.Concat([]int{-1, -2, -size, n - size + 1, n - size + 2, n - 1, n, n + 1}, huge) {
				y.wantPut(run(from, size), h, api.ErrRange)
			}
			y.wantPut(run(0, size), h, api.OK)
			y = newLand(t, n)
			y.wantPut(run(n-size, size), h, api.OK)
		}
		for _, n := range []int{0, 1, size - 1} {
			y := newLand(t, n)
			for _, from := range slices.Concat([]int{0, 1, n}, huge) {
				y.wantPut(run(from, size), h, api.ErrRange)
			}
		}
	}
	y := newLand(t, api.MaxWords)
	y.wantPut(run(api.MaxWords-4000, 4001), array(1, 4000), api.ErrRange)
	y.wantPut(run(api.MaxWords-4001, 4001), array(1, 4000), api.OK)
	y.wantPut(run(api.MaxWords-1, 2), array(1, 0), api.ErrRange)
	y.wantPut(run(api.MaxWords-2, 2), array(1, 0), api.OK)
}

// TestP12_1PutEveryRun holds Put of heads of few fields at every run about six words against the plain one.
func TestP12_1PutEveryRun(t *testing.T) {
	heads := append([]api.Head{array(0, 0), array(3, 0), array(1, 1), object(0, 1), object(5, 2), array(2, 2), object(31, 3), array(0, 5), object(2, 5), array(0, 6)}, mayNot...)
	for _, h := range heads {
		for from := -3; from <= 8; from++ {
			for n := -3; n <= 9; n++ {
				newLand(t, 6).put(run(from, n), h)
			}
		}
	}
}

// wantThereAndBack: what is put from the place on is there, with fields that are 0, and all other words stay.
func (y *land) wantThereAndBack(from int, h api.Head, types []api.Desc) {
	y.Helper()
	was := slices.Clone(y.cells)
	size := sizeOf(h)
	y.wantPut(run(from, size), h, api.OK)
	kinds, _ := plainKinds(types, h)
	want := api.Object{At: from + 1, Head: h, Kinds: kinds, Values: make([]uint64, h.N)}
	y.wantOne(types, want)
	y.wantObjects(types, []api.Run{run(from, size)}, want)
	got := y.mem.All()
	if !slices.Equal(got[:from], was[:from]) || !slices.Equal(got[from+size:], was[from+size:]) {
		y.Errorf("Put(%d, %+v): others' words were changed", from, h)
	}
	for i, v := range got[from+1 : from+size] {
		if v != 0 {
			y.Errorf("Put(%d, %+v): the word %d is %d", from, h, from+1+i, v)
		}
	}
}

// TestP12_2EveryHead: every head of another sort than an array's, and those of arrays, the smaller ones all, of the greater ones some, and the greatest ones.
func TestP12_2EveryHead(t *testing.T) {
	for n := 1; n <= 60; n++ {
		var types []api.Desc
		for typ := range 32 {
			types = append(types, api.Desc{Fields: kindsInTurn(n + typ)[typ:]})
		}
		for typ := range 32 {
			newLand(t, n+4).wantThereAndBack(2, object(typ, n), types)
		}
	}
	for n := range 4001 {
		if n > 130 && n < 3990 && n%97 != 0 {
			continue
		}
		for kind := range 4 {
			newLand(t, n+4).wantThereAndBack(1, array(kind, n), nil)
		}
	}
}

// TestP12_2WhateverWasThere: the words may have been anything: other objects' heads and fields, 0, all bits, an object of the very same head.
func TestP12_2WhateverWasThere(t *testing.T) {
	types := someTypes()
	for _, h := range allSorts() {
		w, _ := plainWord(h)
		for _, v := range []uint64{0, 1, 7, 131329, w, w - 1, 1 << 63, 1<<64 - 1} {
			y := newLand(t, sizeOf(h)+6)
			for at := range y.cells {
				y.write(at, v)
			}
			y.wantThereAndBack(3, h, types)
			y.wantThereAndBack(3, h, types)
		}
	}
}

// TestP12_2SomewhereElse: put again at another place, also one that overlaps the first one, it is there, too; where the two don't overlap, the first one stays.
func TestP12_2SomewhereElse(t *testing.T) {
	types := someTypes()
	for _, h := range []api.Head{object(0, 1), object(1, 2), object(2, 5), array(0, 0), array(1, 1), array(2, 4), array(3, 7)} {
		size := sizeOf(h)
		for to := range 3*size + 3 {
			y := newLand(t, 4*size+3)
			from := size + 1
			y.wantThereAndBack(from, h, types)
			if h.N > 0 {
				y.write(from+h.N, 77)
			}
			first, _ := y.one(from+1, types)
			y.wantThereAndBack(to, h, types)
			if to <= from-size || to >= from+size {
				y.wantOne(types, first)
				y.wantObjects(types, []api.Run{run(from, size), run(to, size)}, first, api.Object{At: to + 1, Head: h, Kinds: first.Kinds, Values: make([]uint64, h.N)})
			}
		}
	}
}

// TestP12_2FieldsAreItsOwn: what is written into the fields of the one is in no other one's, and a head that is written anew is the new one's.
func TestP12_2FieldsAreItsOwn(t *testing.T) {
	types := someTypes()
	y, things, objects := street(t, allSorts(), types, 0)
	for i, o := range objects {
		for f := range o.Values {
			o.Values[f] = 1<<64 - 1 - uint64(100*i+f)
			y.write(o.At+f, o.Values[f])
		}
	}
	y.wantObjects(types, things, objects...)
	for i, o := range objects {
		y.wantPut(things[i], o.Head, api.OK)
		clear(o.Values)
		y.wantObjects(types, things, objects...)
	}
}

// TestP12_2MixedRow holds long rows of Put, of writing, and of asking for what is there against plain ones.
func TestP12_2MixedRow(t *testing.T) {
	types := someTypes()
	heads := append(allSorts(), object(7, 3), object(1, 3), array(4, 1), object(0, 0))
	for _, size := range []int{3, 12, 70, 400} {
		y := newLand(t, size)
		m := mixed(size)
		var things []api.Run
		for range 4000 {
			h := heads[m.next(len(heads))]
			at := m.next(size+4) - 2
			switch m.next(6) {
			case 0, 1:
				r := run(at, sizeOf(h)+m.next(8)/7)
				if y.put(r, h) == api.OK {
					things = append(things, r)
				}
			case 2:
				if w, may := plainWord(h); may && at >= 0 && at < size {
					y.write(at, w)
				}
			case 3:
				if at >= 0 && at < size {
					y.write(at, uint64(m.next(20)))
				}
			case 4:
				y.one(at, types[:m.next(5)])
			default:
				i := max(0, len(things)-m.next(6))
				y.objects(things[i:], types)
			}
		}
		y.wantCells()
	}
}
