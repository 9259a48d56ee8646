package sweep_test

import (
	"math"
	"slices"
	"testing"

	"kraal/api"
	"kraal/sweep"
)

// wantMissing: without a region's objects each other one's count is less by what goes with it, and what goes with the other ones is the same but for what went to it.
func wantMissing(t *testing.T, p plain, gone int) {
	t.Helper()
	rest := p.without(gone)
	goes := sweep.Outgoing(p.objects, gone)
	was, is := sweep.Counts(p.objects, p.roots), sweep.Counts(rest.objects, p.roots)
	var want []api.Run
	for _, r := range was {
		if n := r.N - of(goes, r.From); r.From != gone && n != 0 {
			want = append(want, run(r.From, n))
		}
	}
	if !slices.Equal(is, want) {
		t.Errorf("of %+v, roots %v, without %d: counts were %v, %v goes: got %v, want %v", p.objects, p.roots, gone, was, goes, is, want)
	}
	for _, region := range append(p.regions(), 1, 2, 3) {
		if region == gone {
			wantIncoming(t, rest.objects, p.roots, gone, 0)
			wantOutgoing(t, rest.objects, gone)
			continue
		}
		before := sweep.Incoming(p.objects, p.roots, region)
		wantIncoming(t, rest.objects, p.roots, region, before-of(goes, region))
		wantOutgoing(t, rest.objects, region, lacking(sweep.Outgoing(p.objects, region), gone)...)
	}
}

// lacking are the same runs, but for the one of that region.
func lacking(runs []api.Run, region int) []api.Run {
	return slices.DeleteFunc(slices.Clone(runs), func(r api.Run) bool { return r.From == region })
}

// apart leaves of objects of several regions at one place the first one's alone there: else the place would come to another region with the first one's going, and more would point to that one.
func apart(p plain) plain {
	whose := map[int]int{}
	var objects []api.Object
	for _, o := range p.objects {
		if region, ok := whose[o.At]; ok && region != o.Region {
			continue
		}
		whose[o.At] = o.Region
		objects = append(objects, o)
	}
	return plain{objects, p.roots}
}

// TestP18_2Ordinary is told in plain numbers.
func TestP18_2Ordinary(t *testing.T) {
	l := []api.Object{
		object(5, 1, counted(9), counted(10), counted(12), counted(5)),
		object(9, 2, counted(5), counted(12), counted(10)),
		object(10, 2, counted(12), field{api.Same, 9}),
		object(12, 3, counted(9), field{api.Up, 5}, field{api.Scalar, 5}),
	}
	roots := []uint64{12, 9, 9, 0, 6}
	wantCounts(t, l, roots, run(1, 1), run(2, 5), run(3, 4))
	wantOutgoing(t, l, 1, run(2, 2), run(3, 1))
	wantCounts(t, l[1:], roots, run(2, 3), run(3, 3))
	wantOutgoing(t, l, 2, run(1, 1), run(3, 2))
	wantCounts(t, []api.Object{l[0], l[3]}, roots, run(3, 2))
	wantOutgoing(t, l, 3, run(2, 1))
	wantCounts(t, l[:3], roots, run(1, 1), run(2, 4))
	for _, gone := range append([]int{1, 2, 3, 4}, wrong...) {
		wantMissing(t, plain{l, roots}, gone)
	}
}

// TestP18_2AllInTurn: of mixed lists each region's objects are taken out in turn, those of Region 0 and below too, from the whole list, and one region after the other till none is left.
func TestP18_2AllInTurn(t *testing.T) {
	for seed, s := range shapes {
		m := mixed(seed + 50)
		for range 4000 / (s.objects + 5) {
			p := apart(m.some(s))
			for _, gone := range append(p.regions(), -1, 0, s.regions+1, math.MaxInt, math.MinInt) {
				wantMissing(t, p, gone)
			}
			for len(p.objects) > 0 {
				regions := p.regions()
				gone := regions[m.next(len(regions))]
				wantMissing(t, p, gone)
				p = p.without(gone)
			}
			wantCounts(t, p.objects, p.roots)
			if t.Failed() {
				t.FailNow()
			}
		}
	}
}

// TestP18_2EveryPair: every two objects at places of their own, of few regions, kinds and values.
func TestP18_2EveryPair(t *testing.T) {
	regions, kinds, values := []int{0, 1, 2, 3}, []int{0, 1, 2, 3}, []uint64{0, 1, 2, 3}
	for _, first := range oneField([]int{1}, regions, kinds, values) {
		for _, second := range oneField([]int{2}, regions, kinds, values) {
			p := plain{[]api.Object{first, second}, []uint64{1, 2, 2}}
			for _, gone := range regions {
				wantMissing(t, p, gone)
			}
		}
		if t.Failed() {
			t.FailNow()
		}
	}
}
