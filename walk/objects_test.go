package walk_test

import (
	"math"
	"slices"
	"testing"

	"kraal/api"
)

// allSorts are heads of every kind, of one field, of many and of none.
func allSorts() []api.Head {
	return []api.Head{
		object(1, 2), array(3, 0), array(1, 4), object(0, 1), array(0, 1), object(3, 60), array(2, 17), object(2, 5),
		array(0, 0), array(2, 1), array(3, 2), array(1, 0), object(1, 2), array(0, 300), array(2, 0), array(3, 1), object(0, 1),
	}
}

// street puts objects one behind the other, with so many words of nobody's between them and at both ends: the things, and the objects of them.
func street(t *testing.T, heads []api.Head, types []api.Desc, between int) (*land, []api.Run, []api.Object) {
	t.Helper()
	var things []api.Run
	at := between
	for _, h := range heads {
		things = append(things, run(at, sizeOf(h)))
		at += sizeOf(h) + between
	}
	y := newLand(t, at)
	var objects []api.Object
	for i, r := range things {
		y.wantPut(r, heads[i], api.OK)
		kinds, _ := plainKinds(types, heads[i])
		objects = append(objects, api.Object{At: r.From + 1, Head: heads[i], Kinds: kinds, Values: make([]uint64, heads[i].N)})
	}
	return y, things, objects
}

// TestP12_1OneBehindTheOther: they are met by One and by Objects, in order, with what was written into their fields since.
func TestP12_1OneBehindTheOther(t *testing.T) {
	types := someTypes()
	for _, between := range []int{0, 1, 3} {
		y, things, objects := street(t, allSorts(), types, between)
		y.wantObjects(types, things, objects...)
		for i, o := range objects {
			for f := range o.Values {
				o.Values[f] = uint64(1000*i + f + 1)
				y.write(o.At+f, o.Values[f])
			}
			y.wantOne(types, o)
			y.wantObjects(types, things, objects...)
		}
		y.wantCells()
	}
}

// TestP12_1AnyOrder: the order is that of the things, not of the places; a thing may come more than once, and others not at all.
func TestP12_1AnyOrder(t *testing.T) {
	types := someTypes()
	y, things, objects := street(t, allSorts(), types, 1)
	for i, o := range objects {
		if o.Head.N > 0 {
			o.Values[0] = uint64(i + 1)
			y.write(o.At, o.Values[0])
		}
	}
	var m mixed
	for range 300 {
		var some []api.Run
		var want []api.Object
		for range m.next(2 * len(things)) {
			i := m.next(len(things))
			some, want = append(some, things[i]), append(want, objects[i])
		}
		y.wantObjects(types, some, want...)
	}
	slices.Reverse(things)
	slices.Reverse(objects)
	y.wantObjects(types, things, objects...)
}

// TestP12_1NoThings: of no things there are no objects, whatever the memory and the types are (R4).
func TestP12_1NoThings(t *testing.T) {
	for _, cells := range [][]uint64{nil, {0}, {7, 7, 7}} {
		y := laid(t, cells...)
		for _, types := range [][]api.Desc{nil, {}, {{}}, someTypes()} {
			y.wantObjects(types, nil)
			y.wantObjects(types, []api.Run{})
		}
	}
}

// TestP12_1SizeOfThings: a thing has just so many words as its head's size, not one fewer, one more, or any other number.
func TestP12_1SizeOfThings(t *testing.T) {
	types := someTypes()
	y, things, objects := street(t, allSorts(), types, 2)
	for i, r := range things {
		size := r.N
		for _, n := range slices.Concat([]int{0, 1, size - 2, size - 1, size, size + 1, size + 2, size + 1<<32, -size, objects[i].Head.N}, huge) {
			if n == size {
				y.wantObjects(types, []api.Run{run(r.From, n)}, objects[i])
			} else {
				y.wantNoObjects(types, []api.Run{run(r.From, n)}, api.ErrForm)
			}
		}
	}
}

// TestP12_1OverlappingThings: things that overlap are told as they are, one by one.
func TestP12_1OverlappingThings(t *testing.T) {
	types := someTypes()
	y := laid(t, 196615, 131329, 65539, 7, 7)
	things := []api.Run{run(0, 4), run(1, 3), run(2, 2), run(3, 2), run(0, 4)}
	whole := api.Object{At: 1, Head: array(1, 3), Kinds: []int{1, 1, 1}, Values: []uint64{131329, 65539, 7}}
	y.wantObjects(types, things, whole,
		api.Object{At: 2, Head: object(1, 2), Kinds: []int{1, 2}, Values: []uint64{65539, 7}},
		api.Object{At: 3, Head: array(0, 1), Kinds: []int{0}, Values: []uint64{7}},
		api.Object{At: 4, Head: array(1, 0)},
		whole)
	// Of the array without an element at the last word no field is missing; its size is 2 there, too.
	y.wantObjects(types, []api.Run{run(4, 2)}, api.Object{At: 5, Head: array(1, 0)})
	y.wantNoObjects(types, []api.Run{run(4, 1)}, api.ErrForm)
}

// wrong is a thing of a land of wrongs, and why it is refused.
type wrong struct {
	r api.Run
	e api.Errno
}

// wrongs are things of each sort of wrong, beside three that are as they should be: {20 2}, {22 3} and {25 5}.
func wrongs(t *testing.T) (*land, []wrong) {
	t.Helper()
	y := newLand(t, 60)
	y.write(0, 32*65536+3)             // an array that just ends at the word 32
	y.write(40, 5*65536+31*256+1)      // of a type that isn't there
	y.write(42, 3*65536+256+1)         // of a type that has two fields
	y.write(50, 9*65536+3, 10*65536+3) // the first one ends at the last word, the other one behind it
	y.write(59, 65537)                 // its field is the word behind the last one
	for _, x := range []struct {
		r api.Run
		h api.Head
	}{{run(20, 2), array(1, 0)}, {run(22, 3), object(1, 2)}, {run(25, 5), array(2, 4)}} {
		y.wantPut(x.r, x.h, api.OK)
	}
	l := []wrong{
		{run(0, 32), api.ErrForm}, {run(0, 34), api.ErrForm}, {run(20, 1), api.ErrForm}, {run(22, 4), api.ErrForm}, {run(25, 0), api.ErrForm}, {run(25, -5), api.ErrForm},
		{run(3, 2), api.ErrForm}, {run(21, 2), api.ErrForm},
		{run(40, 6), api.ErrNone}, {run(40, 5), api.ErrNone}, {run(42, 4), api.ErrArg}, {run(42, 3), api.ErrArg}, {run(42, 0), api.ErrArg},
		{run(51, 11), api.ErrRange}, {run(51, 9), api.ErrRange}, {run(59, 2), api.ErrRange}, {run(59, -1), api.ErrRange},
		{run(-1, 2), api.ErrRange}, {run(60, 2), api.ErrRange}, {run(60, 0), api.ErrRange}, {run(61, -1), api.ErrRange}, {run(-1<<32, 33), api.ErrRange},
	}
	for _, from := range huge {
		l = append(l, wrong{run(from, 2), api.ErrRange}, wrong{run(from, from), api.ErrRange})
	}
	return y, append(l, wrong{run(math.MaxInt, 33), api.ErrRange}, wrong{run(math.MinInt, 33), api.ErrRange})
}

// TestP12_1WrongThings: each sort of wrong at the first thing, in the middle and at the last one.
func TestP12_1WrongThings(t *testing.T) {
	types := someTypes()
	y, l := wrongs(t)
	right := []api.Run{run(20, 2), run(22, 3), run(0, 33), run(50, 10), run(25, 5)}
	if _, e := y.objects(right, types); e != api.OK {
		t.Fatalf("without a wrong one: got %v", e)
	}
	for _, x := range l {
		y.wantNoObjects(types, []api.Run{x.r}, x.e)
		for i := range len(right) + 1 {
			y.wantNoObjects(types, slices.Insert(slices.Clone(right), i, x.r), x.e)
		}
	}
	y.wantCells()
}

// TestP12_1FirstWrongThing: of two that are wrong, the first one is told, whatever comes behind it.
func TestP12_1FirstWrongThing(t *testing.T) {
	types := someTypes()
	y, l := wrongs(t)
	for _, x := range l {
		for _, other := range l {
			y.wantNoObjects(types, []api.Run{x.r, other.r}, x.e)
			y.wantNoObjects(types, []api.Run{run(20, 2), x.r, run(25, 5), other.r, run(22, 3)}, x.e)
		}
	}
}

// TestP12_1FormBehindOnesErrors: of one thing with a wrong N, what One tells of it is told first.
func TestP12_1FormBehindOnesErrors(t *testing.T) {
	for n := -1; n < 70; n++ {
		y := laid(t, 9, 5*65536+31*256+1, 2*65536+1, 4*65536+7, 8)
		types := []api.Desc{{Fields: []int{1}}}
		y.wantNoObjects(types, []api.Run{run(-1, n)}, api.ErrRange)
		y.wantNoObjects(types, []api.Run{run(0, n)}, api.ErrForm)
		y.wantNoObjects(types, []api.Run{run(1, n)}, api.ErrNone)
		y.wantNoObjects(types, []api.Run{run(2, n)}, api.ErrArg)
		y.wantNoObjects(types, []api.Run{run(3, n)}, api.ErrRange)
		y.wantNoObjects(types, []api.Run{run(5, n)}, api.ErrRange)
	}
}

// TestP12_1EveryPair holds Objects of every two things about every row of three words against the plain ones.
func TestP12_1EveryPair(t *testing.T) {
	sorts := []uint64{0, 7, 65537, 131329, 65543}
	types := []api.Desc{{Fields: []int{2}}, {Fields: []int{3, 0, 1}}}
	var runs []api.Run
	for from := -1; from <= 3; from++ {
		for n := -1; n <= 4; n++ {
			runs = append(runs, run(from, n))
		}
	}
	y := newLand(t, 3)
	for row := range 5 * 5 * 5 {
		y.write(0, sorts[row%5], sorts[row/5%5], sorts[row/25])
		for _, a := range runs {
			for _, b := range runs {
				y.objects([]api.Run{a, b}, types)
			}
		}
		if t.Failed() {
			t.Fatalf("of the words %v", y.cells)
		}
	}
}

// TestP12_1ManyThings: as many things as a memory has place for, and many more.
func TestP12_1ManyThings(t *testing.T) {
	y := newLand(t, api.MaxWords)
	var things []api.Run
	var want []api.Object
	for from := 0; from < api.MaxWords; from += 2 {
		y.write(from, 65543, uint64(from))
		things = append(things, run(from, 2))
		want = append(want, api.Object{At: from + 1, Head: array(1, 1), Kinds: []int{1}, Values: []uint64{uint64(from)}})
	}
	y.wantObjects(nil, things, want...)
	for range 3 {
		things, want = append(things, things...), append(want, want...)
	}
	y.wantObjects(nil, things, want...)
	y.wantNoObjects(nil, append(things, run(0, 3)), api.ErrForm)
}
