package sweep_test

import (
	"math"
	"slices"
	"testing"

	"kraal/api"
	"kraal/sweep"
)

// wrong are numbers that are no region's in lists of small numbers, and, cut short or wrapped round, some that are.
var wrong = []int{
	0, -1, -2, -3, -255, -1 << 31, -1 << 32, -1<<32 + 1, math.MinInt, math.MinInt + 1, math.MinInt + 2,
	1<<8 + 1, 1<<16 + 2, 1<<31 - 1, 1 << 31, 1 << 32, 1<<32 + 1, 1<<32 + 2, 1<<62 + 1, math.MaxInt - 1, math.MaxInt,
}

// nowhere are words that are no object's place in lists of small places, and, cut short or taken for signed ones, some that are.
var nowhere = []uint64{
	0, 1<<8 + 1, 1<<16 + 2, 1<<31 - 1, 1 << 31, 1 << 32, 1<<32 + 1, 1<<32 + 2, 1<<32 + 5, 1 << 48, 1<<62 + 1, 1<<63 - 1, 1 << 63, 1<<63 + 1, 1<<63 + 5,
	1<<64 - 1<<32 + 1, math.MaxUint64 - 1, math.MaxUint64,
}

// noPointers are kinds that aren't of pointers, and, cut short or wrapped round, some that are.
var noPointers = []int{
	api.Scalar, -1, -2, -3, -4, -255, 4, 5, 7, 8, 255, 1<<8 + 1, 1<<16 + 1, 1 << 31, 1 << 32, 1<<32 + 1, -1<<32 + 1, math.MinInt, math.MinInt + 1, 1<<62 + 1, math.MaxInt - 1, math.MaxInt,
}

// field is a field's kind, with its value.
type field struct {
	kind  int
	value uint64
}

func counted(v uint64) field { return field{1, v} }

// object is one that begins there, of that region, with these fields.
func object(at, region int, fields ...field) api.Object {
	o := api.Object{At: at, Region: region, Head: api.Head{N: len(fields)}}
	for _, f := range fields {
		o.Kinds = append(o.Kinds, f.kind)
		o.Values = append(o.Values, f.value)
	}
	return o
}

func run(region, n int) api.Run { return api.Run{From: region, N: n} }

// plain is what objects and roots should come to, told in the simplest way.
type plain struct {
	objects []api.Object
	roots   []uint64
}

// edge is a counted pointer: from which region, to which one.
type edge struct{ holder, target int }

func (p plain) target(v uint64) int {
	if v == 0 || v > math.MaxInt {
		return 0
	}
	for _, o := range p.objects {
		if o.At == int(v) {
			return max(o.Region, 0)
		}
	}
	return 0
}

// edges are all counted pointers of the objects, and those of the roots.
func (p plain) edges() (objects, roots []edge) {
	for _, o := range p.objects {
		for i := 0; i < len(o.Kinds) && i < len(o.Values); i++ {
			target := p.target(o.Values[i])
			if o.Kinds[i] == 1 && target != 0 && target != o.Region {
				objects = append(objects, edge{o.Region, target})
			}
		}
	}
	for _, v := range p.roots {
		if target := p.target(v); target != 0 {
			roots = append(roots, edge{0, target})
		}
	}
	return objects, roots
}

// regions are all Regions of objects, rising, each once.
func (p plain) regions() []int {
	var regions []int
	for _, o := range p.objects {
		regions = append(regions, o.Region)
	}
	slices.Sort(regions)
	return slices.Compact(regions)
}

// told is of each of the regions how many of the edges are as said: those of which there are none aren't in it.
func (p plain) told(edges []edge, is func(e edge, region int) bool) []api.Run {
	var told []api.Run
	for _, region := range p.regions() {
		n := 0
		for _, e := range edges {
			if is(e, region) {
				n++
			}
		}
		if n != 0 {
			told = append(told, run(region, n))
		}
	}
	return told
}

func (p plain) outgoing(region int) []api.Run {
	edges, _ := p.edges()
	return p.told(edges, func(e edge, to int) bool { return e.holder == region && e.target == to })
}

func (p plain) counts() []api.Run {
	objects, roots := p.edges()
	return p.told(slices.Concat(objects, roots), func(e edge, to int) bool { return e.target == to })
}

// of is what a list of runs tells of a region: 0, if nothing.
func of(runs []api.Run, region int) int {
	for _, r := range runs {
		if r.From == region {
			return r.N
		}
	}
	return 0
}

// without is the same, but for that region's objects.
func (p plain) without(region int) plain {
	var objects []api.Object
	for _, o := range p.objects {
		if o.Region != region {
			objects = append(objects, o)
		}
	}
	return plain{objects, p.roots}
}

func wantTarget(t *testing.T, l []api.Object, v uint64, want int) {
	t.Helper()
	if got := sweep.Target(l, v); got != want {
		t.Errorf("of %+v: Target(%d): got %d, want %d", l, v, got, want)
	}
}

func wantOutgoing(t *testing.T, l []api.Object, region int, want ...api.Run) {
	t.Helper()
	if got := sweep.Outgoing(l, region); !slices.Equal(got, want) {
		t.Errorf("of %+v: Outgoing(%d): got %v, want %v", l, region, got, want)
	}
}

func wantIncoming(t *testing.T, l []api.Object, roots []uint64, region, want int) {
	t.Helper()
	if got := sweep.Incoming(l, roots, region); got != want {
		t.Errorf("of %+v, roots %v: Incoming(%d): got %d, want %d", l, roots, region, got, want)
	}
}

// wantCounts: Counts answers these, and Incoming the same, of all regions of the objects.
func wantCounts(t *testing.T, l []api.Object, roots []uint64, want ...api.Run) {
	t.Helper()
	if got := sweep.Counts(l, roots); !slices.Equal(got, want) {
		t.Errorf("of %+v: Counts(%v): got %v, want %v", l, roots, got, want)
	}
	for _, region := range (plain{l, roots}).regions() {
		wantIncoming(t, l, roots, region, of(want, region))
	}
	for _, r := range want {
		wantIncoming(t, l, roots, r.From, r.N)
	}
}

// wantPlain: all calls answer as the plain enumeration says, of all regions and values that there are, and of these.
func wantPlain(t *testing.T, p plain, asked ...int) {
	t.Helper()
	for _, v := range p.words() {
		wantTarget(t, p.objects, v, p.target(v))
	}
	counts := p.counts()
	wantCounts(t, p.objects, p.roots, counts...)
	for _, region := range append(asked, p.regions()...) {
		wantOutgoing(t, p.objects, region, p.outgoing(region)...)
		wantIncoming(t, p.objects, p.roots, region, of(counts, region))
	}
}

// words are all values, roots and places, the ones that are none too.
func (p plain) words() []uint64 {
	words := slices.Clone(p.roots)
	for _, o := range p.objects {
		words = append(append(words, uint64(o.At)), o.Values...)
	}
	slices.Sort(words)
	return slices.Compact(words)
}

// mixed is a row of numbers that come in no order that is plain to see, always the same.
type mixed uint64

// next is the next number, below that one.
func (m *mixed) next(under int) int {
	*m = *m*6364136223846793005 + 1442695040888963407
	return int(uint64(*m) >> 33 % uint64(under))
}

// copied are the same objects, in memory of their own.
func copied(l []api.Object) []api.Object {
	l = slices.Clone(l)
	for i, o := range l {
		l[i].Kinds, l[i].Values = slices.Clone(o.Kinds), slices.Clone(o.Values)
	}
	return l
}
