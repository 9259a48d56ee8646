package sweep_test

import (
	"math"
	"testing"

	"kraal/api"
	"kraal/sweep"
)

// TestP18_1CountsOfRoots: each root that points to a region's object counts, however often.
func TestP18_1CountsOfRoots(t *testing.T) {
	l := []api.Object{object(5, 1), object(9, 2), object(7, 1), object(12, 0), object(13, -1), object(0, 3), object(-1, 4)}
	wantCounts(t, l, nil)
	wantCounts(t, l, []uint64{})
	wantCounts(t, l, []uint64{0})
	wantCounts(t, l, nowhere)
	wantCounts(t, l, []uint64{12, 13, 0, math.MaxUint64, 6, 8})
	wantCounts(t, l, []uint64{9}, run(2, 1))
	wantCounts(t, l, []uint64{9, 5}, run(1, 1), run(2, 1))
	wantCounts(t, l, []uint64{7, 9, 0, 5, 5, 6, 12, 7}, run(1, 4), run(2, 1))
	wantCounts(t, nil, []uint64{5, 0, 9, math.MaxUint64})
	wantCounts(t, nil, nil)
	// Roots of nobody's are no part of what goes with the region 0.
	for region := range 3 {
		wantOutgoing(t, l, region)
	}
}

// TestP18_1CountsOfBoth: what comes from other regions' objects and what comes from roots, together.
func TestP18_1CountsOfBoth(t *testing.T) {
	l := []api.Object{
		object(9, 2, counted(5), counted(9), counted(10), field{api.Same, 9}),
		object(5, 1, counted(9), counted(10), counted(5), field{api.Scalar, 9}, counted(20)),
		object(10, 2, counted(9), field{api.Up, 5}),
		object(20, 4, counted(20), counted(5), counted(0), counted(77)),
		object(30, 6, counted(10)),
	}
	roots := []uint64{10, 0, 30, 5, 77, 10}
	wantCounts(t, l, nil, run(1, 2), run(2, 3), run(4, 1))
	wantCounts(t, l, roots, run(1, 3), run(2, 5), run(4, 1), run(6, 1))
	for region, want := range map[int]int{1: 3, 2: 5, 4: 1, 6: 1, 3: 0, 5: 0, 7: 0} {
		wantIncoming(t, l, roots, region, want)
	}
	for _, region := range wrong {
		wantIncoming(t, l, roots, region, 0)
		wantIncoming(t, nil, roots, region, 0)
		wantIncoming(t, nil, nil, region, 0)
	}
}

// TestP18_1CountsEnds: regions of the least and of the greatest number, places and words at the ends.
func TestP18_1CountsEnds(t *testing.T) {
	l := []api.Object{
		object(math.MaxInt, math.MaxInt, counted(1), counted(math.MaxInt), counted(2)),
		object(1, math.MinInt, counted(math.MaxInt), counted(2), counted(1), counted(1<<63), counted(math.MaxUint64)),
		object(2, 1, counted(math.MaxInt), counted(1), counted(math.MaxUint64-1)),
		object(math.MinInt, math.MaxInt-1, counted(2), counted(1<<63)),
	}
	roots := []uint64{math.MaxInt, 1, 1 << 63, math.MaxUint64}
	wantOutgoing(t, l, math.MaxInt, run(1, 1))
	wantOutgoing(t, l, math.MinInt, run(1, 1), run(math.MaxInt, 1))
	wantOutgoing(t, l, 1, run(math.MaxInt, 1))
	wantOutgoing(t, l, math.MaxInt-1, run(1, 1))
	wantCounts(t, l, nil, run(1, 3), run(math.MaxInt, 2))
	wantCounts(t, l, roots, run(1, 3), run(math.MaxInt, 3))
	wantIncoming(t, l, roots, math.MinInt, 0)
	wantIncoming(t, l, roots, math.MaxInt-1, 0)
	wantPlain(t, plain{l, roots}, wrong...)
}

// TestP18_1CountsUncounted: a region to which only pointers of the kinds Same and Up, scalars, and its own ones point isn't told.
func TestP18_1CountsUncounted(t *testing.T) {
	l := []api.Object{object(5, 1, field{api.Same, 9}, field{api.Up, 9}, field{api.Scalar, 9}, counted(5)), object(9, 2, counted(9), counted(10)), object(10, 2, counted(9))}
	for _, kind := range noPointers {
		l = append(l, object(20, 3, field{kind, 9}, field{kind, 5}))
	}
	wantCounts(t, l, nil)
	wantCounts(t, l, []uint64{5}, run(1, 1))
	for region := range 4 {
		wantOutgoing(t, l, region)
	}
}

// TestP18_1CountsMany: a long list, each object of which points to the next one, and the first ones to all: what comes is told by their numbers.
func TestP18_1CountsMany(t *testing.T) {
	const objects, regions = 6000, 60
	l := make([]api.Object, objects)
	var roots []uint64
	for i := range l {
		l[i] = object(2*i+1, 1+i%regions, counted(uint64(2*(i+1)+1)), counted(uint64(2*i+1)), field{api.Up, 3}, counted(uint64(2*i+2)))
		roots = append(roots, uint64(i))
	}
	const each = objects / regions
	counts := sweep.Counts(l, roots)
	if len(counts) != regions {
		t.Fatalf("got %d regions", len(counts))
	}
	for region := 1; region <= regions; region++ {
		// Of each of its objects one, but for the first of all, ahead of which there is none; and every second root's, up to the half of them.
		want := each
		if region == 1 {
			want--
		}
		half := each / 2
		if counts[region-1] != run(region, want+half) {
			t.Errorf("got %v, want %v", counts[region-1], run(region, want+half))
		}
		wantIncoming(t, l, nil, region, want)
		next := region%regions + 1
		goes := each
		if region == regions {
			goes--
		}
		if got := sweep.Outgoing(l, region); len(got) != 1 || got[0] != run(next, goes) {
			t.Errorf("Outgoing(%d): got %v, want %v", region, got, run(next, goes))
		}
		if got := sweep.Target(l, uint64(2*region-1)); got != region {
			t.Errorf("Target: got %v, want %v", got, region)
		}
	}
}
