package sweep_test

import (
	"math"
	"testing"

	"kraal/api"
)

// TestP18_1OutgoingExample is the chapter's own.
func TestP18_1OutgoingExample(t *testing.T) {
	l := []api.Object{object(1, 1, counted(17)), object(17, 2, counted(0))}
	wantOutgoing(t, l, 1, run(2, 1))
	wantOutgoing(t, l, 2)
	wantIncoming(t, l, nil, 2, 1)
	wantIncoming(t, l, nil, 1, 0)
	wantCounts(t, l, nil, run(2, 1))
}

// TestP18_1OutgoingOrdinary: to itself, within the region, out of it; more than once to one object, and to several ones of a region.
func TestP18_1OutgoingOrdinary(t *testing.T) {
	l := []api.Object{
		object(1, 1, counted(1), counted(3), counted(20), counted(20)),
		object(20, 3, counted(1), counted(30)),
		object(3, 1, counted(1), counted(21), counted(30), counted(0), counted(2)),
		object(21, 3),
		object(30, 2, counted(30), counted(21), counted(3), counted(1), counted(20), counted(1)),
	}
	wantOutgoing(t, l, 1, run(2, 1), run(3, 3))
	wantOutgoing(t, l, 2, run(1, 3), run(3, 2))
	wantOutgoing(t, l, 3, run(1, 1), run(2, 1))
	wantOutgoing(t, l, 4)
}

// TestP18_1OutgoingOfNone: of no objects, and of a region that no object is in, nothing goes.
func TestP18_1OutgoingOfNone(t *testing.T) {
	lists := [][]api.Object{nil, {}, {{}}, {object(5, 1, counted(9)), object(9, 2, counted(5))}}
	for _, l := range lists {
		for _, region := range append([]int{3, 5, 9}, wrong...) {
			wantOutgoing(t, l, region)
		}
	}
}

// TestP18_1OutgoingOneField: an object of one field, of all kinds, to all sorts of places.
func TestP18_1OutgoingOneField(t *testing.T) {
	around := []api.Object{object(5, 1), object(6, 1), object(9, 2), object(12, 0), object(13, -4), object(math.MaxInt, math.MaxInt)}
	goes := map[uint64]int{9: 2, math.MaxInt: math.MaxInt}
	for _, v := range append([]uint64{5, 6, 7, 9, 12, 13}, nowhere...) {
		want := []api.Run{}
		if to := goes[v]; to != 0 {
			want = append(want, run(to, 1))
		}
		wantOutgoing(t, append(around, object(7, 1, counted(v))), 1, want...)
		// What isn't counted, or no pointer at all, doesn't go.
		for _, kind := range append([]int{api.Same, api.Up}, noPointers...) {
			wantOutgoing(t, append(around, object(7, 1, field{kind, v})), 1)
		}
	}
}

// TestP18_1OutgoingAmongOthers: only what is counted goes, whatever stands ahead of it, between and behind.
func TestP18_1OutgoingAmongOthers(t *testing.T) {
	for _, kind := range append([]int{api.Same, api.Up}, noPointers...) {
		o := field{kind, 9}
		l := []api.Object{object(5, 1, o, counted(9), o, o, counted(9), o), object(6, 1, o), object(7, 1, counted(9), o), object(9, 2, o, field{kind, 5})}
		wantOutgoing(t, l, 1, run(2, 3))
		wantOutgoing(t, l, 2)
		wantCounts(t, l, nil, run(2, 3))
	}
}

// TestP18_1OutgoingOfNoNumber: what goes with the objects of a Region below 1 is told likewise; nothing goes to them.
func TestP18_1OutgoingOfNoNumber(t *testing.T) {
	for _, region := range []int{0, -1, -3, -1<<32 + 1, math.MinInt} {
		l := []api.Object{object(4, region, counted(4), counted(5), counted(9), counted(6)), object(5, 1, counted(4), counted(6)), object(9, 2), object(6, -9, counted(5), counted(4))}
		wantOutgoing(t, l, region, run(1, 1), run(2, 1))
		wantOutgoing(t, l[:3], 1)
		wantCounts(t, l[:3], nil, run(1, 1), run(2, 1))
	}
	l := []api.Object{object(4, 0, counted(9), counted(9)), object(5, -1, counted(9)), object(9, 3, counted(4), counted(5))}
	wantOutgoing(t, l, 0, run(3, 2))
	wantOutgoing(t, l, -1, run(3, 1))
	wantOutgoing(t, l, 3)
	wantCounts(t, l, nil, run(3, 3))
}

// TestP18_1OutgoingLengths: a field without a value is none, a value without a kind too; and the objects behind count all the same.
func TestP18_1OutgoingLengths(t *testing.T) {
	kinds, values := []int{1, 1, 1, 1}, []uint64{9, 9, 9, 9}
	for k := range 5 {
		for v := range 5 {
			cut := api.Object{At: 5, Region: 1, Head: api.Head{N: 4}, Kinds: kinds[:k], Values: values[:v]}
			l := []api.Object{cut, object(6, 1, counted(9)), object(9, 2, counted(5))}
			wantOutgoing(t, l, 1, run(2, min(k, v)+1))
			wantOutgoing(t, l, 2, run(1, 1))
			wantCounts(t, l, nil, run(1, 1), run(2, min(k, v)+1))
			if k > 0 && v > 0 {
				continue
			}
			wantOutgoing(t, l[:1], 1)
			wantOutgoing(t, []api.Object{l[2], cut}, 1)
		}
	}
	for _, o := range []api.Object{{At: 5, Region: 1, Kinds: []int{1, 1}}, {At: 5, Region: 1, Values: []uint64{9, 9}}, {At: 5, Region: 1, Kinds: []int{1}, Values: []uint64{}}, {At: 5, Region: 1, Kinds: []int{}, Values: []uint64{9}}} {
		wantOutgoing(t, []api.Object{object(9, 2), o}, 1)
	}
}

// TestP18_1OutgoingHead: what the head says of kinds and of how many there are isn't asked.
func TestP18_1OutgoingHead(t *testing.T) {
	for _, h := range []api.Head{{}, {N: 1}, {N: 99}, {N: -1}, {Array: true, Kind: api.Scalar, N: 2}, {Array: true, Kind: 9}, {Type: -1, N: 3}} {
		o := object(5, 1, counted(9), counted(9))
		o.Head = h
		l := []api.Object{o, object(9, 2)}
		wantOutgoing(t, l, 1, run(2, 2))
		wantCounts(t, l, []uint64{5}, run(1, 1), run(2, 2))
	}
}

// TestP18_1OutgoingOnePlace: an object at the place of another one isn't pointed to, but what its fields count goes with it all the same.
func TestP18_1OutgoingOnePlace(t *testing.T) {
	l := []api.Object{object(5, 1, counted(9)), object(5, 2, counted(5), counted(9)), object(9, 3, counted(5), counted(9)), object(5, 1, counted(9)), object(9, 1, counted(5), counted(9))}
	wantOutgoing(t, l, 1, run(3, 3))
	wantOutgoing(t, l, 2, run(1, 1), run(3, 1))
	wantOutgoing(t, l, 3, run(1, 1))
	wantCounts(t, l, nil, run(1, 2), run(3, 4))
	// The first one of no region's: nothing goes to that place, even though others are there.
	l = append([]api.Object{object(5, 0), object(9, -2)}, l...)
	for region := range 4 {
		wantOutgoing(t, l, region)
	}
	wantCounts(t, l, []uint64{5, 9})
	// Those at 0 and below aren't pointed to either, and have pointers.
	l = []api.Object{object(0, 1, counted(9)), object(-1, 1, counted(9), counted(math.MaxUint64)), object(0, 2, counted(0)), object(9, 3, counted(0), counted(math.MaxUint64))}
	wantOutgoing(t, l, 1, run(3, 2))
	wantOutgoing(t, l, 2)
	wantOutgoing(t, l, 3)
	wantCounts(t, l, nil, run(3, 2))
}

// TestP18_1OutgoingOneRegion: a pointer to its own region isn't counted, from another object of it either; of numbers that are one, cut short, it is.
func TestP18_1OutgoingOneRegion(t *testing.T) {
	for _, region := range []int{1, 2, 1<<32 + 1, math.MaxInt} {
		l := []api.Object{object(5, region, counted(5), counted(7)), object(6, 3, counted(5)), object(7, region, counted(5), counted(6), counted(7))}
		wantOutgoing(t, l, region, run(3, 1))
		wantOutgoing(t, l, 3, run(region, 1))
	}
	l := []api.Object{object(5, 1, counted(6)), object(6, 1<<32+1, counted(5), counted(7)), object(7, 1<<8+1, counted(5))}
	wantOutgoing(t, l, 1, run(1<<32+1, 1))
	wantOutgoing(t, l, 1<<32+1, run(1, 1), run(257, 1))
	wantOutgoing(t, l, 1<<8+1, run(1, 1))
}

// TestP18_1Rising: whatever the order of the objects and of the fields, regions are told rising, each once.
func TestP18_1Rising(t *testing.T) {
	regions := []int{9, 1 << 40, 2, math.MaxInt, 5, 1<<32 + 1, 3, 1, 8}
	l := []api.Object{object(500, 7)}
	for i, region := range regions {
		l = append(l, object(10+i, region))
		for range 2 {
			l[0].Kinds = append([]int{1}, l[0].Kinds...)
			l[0].Values = append([]uint64{uint64(10 + i)}, l[0].Values...)
		}
	}
	want := []api.Run{run(1, 2), run(2, 2), run(3, 2), run(5, 2), run(8, 2), run(9, 2), run(1<<32+1, 2), run(1<<40, 2), run(math.MaxInt, 2)}
	wantOutgoing(t, l, 7, want...)
	wantCounts(t, l, nil, want...)
	wantCounts(t, l, []uint64{500}, append(append([]api.Run{}, want[:4]...), append([]api.Run{run(7, 1)}, want[4:]...)...)...)
}
