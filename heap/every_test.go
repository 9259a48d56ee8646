package heap_test

import (
	"testing"

	"kraal/api"
)

// call is a call at a pair.
type call struct {
	name string
	do   func(p *pair)
}

// small is a pair of few pages, with a region 1, a region 2 below it, a region 3 beside it, and in each an object with a field of each kind: at 1, 17 and 33.
func small(t *testing.T) *pair {
	t.Helper()
	p := made(t, api.Config{Pages: 4, Globals: 1, Types: []api.Desc{allKinds}})
	p.wantRegion(0, 1)
	p.wantRegion(1, 2)
	p.wantRegion(0, 3)
	for i := range uint64(3) {
		p.wantAlloc(i+1, typed(0, 4), 16*i+1)
	}
	return p
}

// smallCalls are few calls at that pair.
var smallCalls = []call{
	{"Region(2)", func(p *pair) { p.newRegion(2) }},
	{"Region(3)", func(p *pair) { p.newRegion(3) }},
	{"Delete(1)", func(p *pair) { p.delete(1) }},
	{"Delete(2)", func(p *pair) { p.delete(2) }},
	{"Delete(3)", func(p *pair) { p.delete(3) }},
	{"Alloc(2)", func(p *pair) { p.alloc(2, typed(0, 4)) }},
	{"Alloc(3), large", func(p *pair) { p.alloc(3, array(api.Counted, 16)) }},
	{"Alloc(4)", func(p *pair) { p.alloc(4, array(api.Counted, 15)) }},
	{"1 counts 17", func(p *pair) { p.set(1, api.Counted, 17) }},
	{"17 counts 1", func(p *pair) { p.set(17, api.Counted, 1) }},
	{"17 counts 33", func(p *pair) { p.set(17, api.Counted, 33) }},
	{"17 counts 22", func(p *pair) { p.set(17, api.Counted, 22) }},
	{"17 counts 0", func(p *pair) { p.set(17, api.Counted, 0) }},
	{"33 counts 17", func(p *pair) { p.set(33, api.Counted, 17) }},
	{"17 up 1", func(p *pair) { p.set(17, api.Up, 1) }},
	{"1 up 17", func(p *pair) { p.set(1, api.Up, 17) }},
	{"17 same 22", func(p *pair) { p.set(17, api.Same, 22) }},
	{"33 scalar 17", func(p *pair) { p.set(33, api.Scalar, 17) }},
	{"global 17", func(p *pair) { p.setGlobal(0, 17) }},
	{"global 33", func(p *pair) { p.setGlobal(0, 33) }},
	{"global 0", func(p *pair) { p.setGlobal(0, 0) }},
	{"Push", func(p *pair) { p.push(1) }},
	{"slot 17", func(p *pair) { p.setSlot(0, 17) }},
	{"Pop", func(p *pair) { p.pop() }},
}

// TestP19_1EveryRow: every row of three calls at a small heap, held against the plain one behind each call.
func TestP19_1EveryRow(t *testing.T) {
	everyRow(t, func(p *pair) { p.Helper(); p.wantPlain(); p.wantFields() })
}

// everyRow makes every row of three calls at a small heap, and checks behind each call.
func everyRow(t *testing.T, check func(p *pair)) {
	t.Helper()
	for _, first := range smallCalls {
		for _, second := range smallCalls {
			for _, third := range smallCalls {
				p := small(t)
				for _, c := range []call{first, second, third} {
					c.do(p)
					check(p)
				}
				if t.Failed() {
					t.Fatalf("behind %s; %s; %s", first.name, second.name, third.name)
				}
			}
		}
	}
}
