package heap_test

import (
	"math"
	"reflect"
	"slices"
	"testing"

	"kraal/api"
	"kraal/heap"
)

// wrongNumbers are those that are no number of pages, nor of globals.
var wrongNumbers = []int{-1, -2, -16, -1 << 31, -1 << 32, -1<<32 + 1, math.MinInt, math.MinInt + 1, 1025, 1026, 1<<16 + 1, 1<<31 - 1, 1 << 31, 1 << 32, 1<<32 + 1, 1<<62 + 1, math.MaxInt}

// wrongTypes are lists of types that may not be.
func wrongTypes() [][]api.Desc {
	return [][]api.Desc{
		{{}}, {{Fields: []int{}}}, {allKinds, {}}, {{}, allKinds}, {desc(4)}, {desc(-1)}, {desc(1, 2, 3, 4)}, {allKinds, desc(0, math.MinInt)}, {desc(1<<32 + 1)},
		{desc(make([]int, 61)...)}, {allKinds, desc(make([]int, 61)...)}, slices.Repeat([]api.Desc{allKinds}, 33), slices.Repeat([]api.Desc{allKinds}, 320),
	}
}

// wantNone: of that configuration there is no heap.
func wantNone(t *testing.T, c api.Config) {
	t.Helper()
	if h, e := heap.New(c); h != nil || e != api.ErrArg {
		t.Errorf("New(%+v): got %v, %v, want none, %v", c, h, e, api.ErrArg)
	}
}

// TestP19_1New: of every number of pages and of globals that there can be, and of types that may be, there is a heap, without anything in it.
func TestP19_1New(t *testing.T) {
	for pages := 1; pages <= 1024; pages++ {
		p := made(t, api.Config{Pages: pages})
		if h := p.heap; h.Free() != pages || h.Len() != pages {
			t.Fatalf("of %d pages: Free %d, Len %d", pages, h.Free(), h.Len())
		}
	}
	for n := range 65 {
		p := made(t, api.Config{Pages: 1, Globals: n})
		p.wantPlain()
		p.wantFields()
	}
	for _, types := range [][]api.Desc{nil, {}, {allKinds}, {desc(0)}, {desc(make([]int, 60)...)}, fourTypes, slices.Repeat([]api.Desc{allKinds}, 32)} {
		p := made(t, api.Config{Pages: 3, Globals: 2, Types: types})
		p.wantPlain()
		p.wantFields()
	}
}

// TestP19_1NewRefused: of wrong numbers of pages or globals, or of types that may not be, there is none, whichever of them are wrong.
func TestP19_1NewRefused(t *testing.T) {
	wantNone(t, api.Config{})
	for _, n := range append(wrongNumbers, 0) {
		wantNone(t, api.Config{Pages: n})
		wantNone(t, api.Config{Pages: n, Globals: 65})
		wantNone(t, api.Config{Pages: n, Globals: 1, Types: []api.Desc{allKinds}})
	}
	for _, n := range append(wrongNumbers, 65, 66, 1024) {
		wantNone(t, api.Config{Pages: 1, Globals: n})
		wantNone(t, api.Config{Pages: 0, Globals: n})
	}
	for _, types := range wrongTypes() {
		wantNone(t, api.Config{Pages: 1, Types: types})
		wantNone(t, api.Config{Pages: 1024, Globals: 64, Types: types})
		wantNone(t, api.Config{Pages: 1025, Globals: -1, Types: types})
	}
}

// TestR3ConfigStays: a configuration that is handed in is as it was, whatever is done then.
func TestR3ConfigStays(t *testing.T) {
	c := func() api.Config { return api.Config{Pages: 4, Globals: 2, Types: slices.Clone(fourTypes)} }
	given := c()
	p := made(t, given)
	p.newRegion(0)
	at, _ := p.alloc(1, typed(0, 4))
	p.set(at, 1, at)
	for _, o := range p.heap.Objects() {
		clear(o.Kinds)
	}
	if !reflect.DeepEqual(given, c()) {
		t.Errorf("the configuration was changed: %+v", given)
	}
}

// TestR3ConfigIsNotKept: who writes into a configuration later changes nothing, of what is made then too.
func TestR3ConfigIsNotKept(t *testing.T) {
	c := api.Config{Pages: 4, Globals: 2, Types: []api.Desc{desc(0, 1, 2, 3), desc(1)}}
	p := made(t, c)
	p.wantRegion(0, 1)
	p.wantRegion(1, 2)
	p.wantAlloc(1, typed(0, 4), 1)
	fields := c.Types[0].Fields
	copy(fields, []int{3, 3, 3, 3})
	c.Types[0] = desc(0, 0)
	c.Types[1] = desc()
	_ = append(c.Types[:1], desc(1, 1))
	p.wantPlain()
	p.wantFields()
	p.wantAlloc(2, typed(0, 4), 17)
	p.wantAlloc(2, typed(1, 1), 22)
	if _, e := p.alloc(2, typed(0, 2)); e != api.ErrArg {
		t.Errorf("Alloc of a type that came later: got %v", e)
	}
	for i := range uint64(4) {
		p.set(1, i, 17)
		p.set(17, i, 1)
	}
	p.wantCounts(1, 1)
	p.wantFields()
}

// TestR4NilConfig: a nil list of types is the same as an empty one.
func TestR4NilConfig(t *testing.T) {
	for _, types := range [][]api.Desc{nil, {}} {
		p := made(t, api.Config{Pages: 2, Types: types})
		p.wantRegion(0, 1)
		if _, e := p.alloc(1, typed(0, 1)); e != api.ErrNone {
			t.Errorf("Alloc of a type: got %v", e)
		}
		p.wantAlloc(1, array(api.Up, 2), 1)
		p.wantPlain()
	}
}
