package heap_test

import (
	"slices"
	"testing"

	"kraal/api"
)

// fourTypes are such that between them they have all kinds, one alone and several together.
var fourTypes = []api.Desc{allKinds, desc(api.Counted), desc(api.Up, api.Counted, api.Counted), desc(slices.Repeat([]int{api.Counted, api.Same, api.Scalar}, 7)...)}

// shape is how a mixed row is made: of which heap, and how many calls; by turns so many calls make more than goes, up to some regions mostly, and as many have more go than they make.
type shape struct {
	name   string
	config api.Config
	calls  int
	turn   int
	some   int
}

var shapes = []shape{
	{"one page", api.Config{Pages: 1}, 600, 40, 3},
	{"two pages", api.Config{Pages: 2, Globals: 1, Types: fourTypes[:1]}, 1500, 60, 3},
	{"six pages", api.Config{Pages: 6, Globals: 3, Types: fourTypes}, 3000, 100, 5},
	{"twenty pages", api.Config{Pages: 20, Globals: 64, Types: fourTypes}, 3000, 250, 7},
	{"seventy pages, many regions", api.Config{Pages: 70, Globals: 2, Types: fourTypes}, 2000, 700, 70},
	{"all pages", api.Config{Pages: api.MaxPages, Globals: 5, Types: slices.Repeat(fourTypes, 8)}, 150, 100, 9},
}

// mixedRow makes mixed calls at a pair, and checks behind each one; it answers which answers were met.
func mixedRow(t *testing.T, s shape, seed int, check func(p *pair)) map[answer]int {
	t.Helper()
	m := mixed(seed)
	p := made(t, s.config)
	for step := range s.calls {
		mixedCall(&m, p, step/s.turn%2 == 0, s.some)
		check(p)
		if t.Failed() {
			t.Fatalf("%s, row %d, call %d", s.name, seed, step)
		}
	}
	return p.met
}

// mixedRows makes mixed rows of all shapes, and tells which answers were met in them.
func mixedRows(t *testing.T, check func(p *pair)) map[answer]int {
	t.Helper()
	met := map[answer]int{}
	for _, s := range shapes {
		for seed := range 5 {
			for a, n := range mixedRow(t, s, seed, check) {
				met[a] += n
			}
		}
	}
	return met
}

// mixedCall is any call. Of those by which things come and go, those come more often that lead where the row goes.
func mixedCall(m *mixed, p *pair, rising bool, some int) {
	p.Helper()
	few := len(p.plain.regions) < some
	switch what := m.next(24); {
	case what < 3 && rising && few, what == 3 && !(rising && few):
		p.newRegion(anyParent(m, p))
	case what < 7 && rising, what == 4:
		p.alloc(anyRegion(m, p), anyHead(m, p))
	case what == 7:
		p.delete(anyRegion(m, p))
	case what < 5 && !rising, what == 8:
		loosen(m, p)
	case what < 16:
		at := anyAddress(m, p)
		p.set(at, anyField(m, p, at), anyValue(m, p, at))
	case what < 17:
		at := anyAddress(m, p)
		p.get(at, anyField(m, p, at))
		p.count(anyRegion(m, p))
	case what < 19:
		p.setGlobal(anyPlace(m, len(p.plain.globals)), anyValue(m, p, 0))
	case what < 20:
		p.push(anyPlace(m, 6))
	case what < 21:
		p.pop()
	case what < 22:
		p.global(anyPlace(m, len(p.plain.globals)))
		p.slot(anyPlace(m, 6))
	default:
		p.setSlot(anyPlace(m, 4), anyValue(m, p, 0))
	}
}

// anyRegion is one that lives mostly, else one that may have gone, or none's number.
func anyRegion(m *mixed, p *pair) uint64 {
	live := p.plain.live()
	switch {
	case m.next(15) == 0:
		return huge[m.next(len(huge))]
	case m.next(15) == 0 || len(live) == 0:
		return uint64(m.next(p.plain.last + 2))
	}
	return uint64(live[m.next(len(live))])
}

func anyParent(m *mixed, p *pair) uint64 {
	if m.next(3) == 0 {
		return 0
	}
	return anyRegion(m, p)
}

// anyHead is one that may be mostly: small ones more often than large ones.
func anyHead(m *mixed, p *pair) api.Head {
	types := p.plain.types
	switch m.next(12) {
	case 0:
		return api.Head{Array: m.next(2) == 0, Kind: m.next(6) - 1, Type: m.next(5) - 1, N: m.next(20) - 1}
	case 1:
		return array(m.next(4), []int{-1, 4001, 4000, 300, 47, 48}[m.next(6)])
	case 2:
		return array(m.next(4), 15+m.next(34))
	case 3, 4, 5, 6:
		if len(types) > 0 {
			i := m.next(len(types))
			return typed(i, len(types[i].Fields))
		}
	}
	return array(m.next(4), m.next(9))
}

// anyAddress is an object's mostly, else one about it, or none's at all.
func anyAddress(m *mixed, p *pair) uint64 {
	all := p.plain.objects()
	switch {
	case m.next(30) == 0:
		return huge[m.next(len(huge))]
	case m.next(15) == 0 || len(all) == 0:
		return uint64(m.next(16*len(p.plain.owners) + 2))
	case m.next(30) == 0:
		return uint64(all[m.next(len(all))].At - 1 + 2*m.next(2))
	}
	return uint64(all[m.next(len(all))].At)
}

// anyPlace is one of so many mostly, else one at their end, or a huge one.
func anyPlace(m *mixed, n int) uint64 {
	switch m.next(12) {
	case 0:
		return huge[m.next(len(huge))]
	case 1:
		return uint64(n + m.next(20))
	}
	return uint64(m.next(max(n, 1)))
}

func anyField(m *mixed, p *pair, at uint64) uint64 {
	_, o := p.plain.object(at)
	if o == nil {
		return anyPlace(m, 3)
	}
	return anyPlace(m, len(o.kinds))
}

// anyValue is an address mostly, that of an object of the same region as the one at the place often; else 0, or any word.
func anyValue(m *mixed, p *pair, at uint64) uint64 {
	r, _ := p.plain.object(at)
	switch what := m.next(10); {
	case what < 2:
		return 0
	case what < 4 && r != nil:
		return uint64(r.objects[m.next(len(r.objects))].at)
	case what == 4:
		return uint64(m.next(1<<31)) * huge[m.next(len(huge))]
	}
	return anyAddress(m, p)
}

// loosen takes a pointer from outside away from a region, if there is one; else it deletes it.
func loosen(m *mixed, p *pair) {
	p.Helper()
	if len(p.plain.regions) == 0 {
		return
	}
	r := p.plain.regions[m.next(len(p.plain.regions))]
	if i := slices.IndexFunc(p.plain.globals, func(v uint64) bool { return p.plain.target(v) == r.id }); i >= 0 {
		p.setGlobal(uint64(i), 0)
		return
	}
	for _, holder := range p.plain.regions {
		for _, o := range holder.objects {
			for i, kind := range o.kinds {
				if holder != r && kind == api.Counted && p.plain.target(o.values[i]) == r.id {
					p.set(uint64(o.at), uint64(i), 0)
					return
				}
			}
		}
	}
	if p.delete(uint64(r.id)) == api.ErrHeld {
		p.pop()
	}
}

// often are the answers that mixed rows come to, each of them many times: rows that lacked one would prove little.
var often = []answer{
	{"Region", api.OK}, {"Region", api.ErrNone}, {"Region", api.ErrFull},
	{"Delete", api.OK}, {"Delete", api.ErrNone}, {"Delete", api.ErrBusy}, {"Delete", api.ErrHeld},
	{"Alloc", api.OK}, {"Alloc", api.ErrNone}, {"Alloc", api.ErrKind}, {"Alloc", api.ErrArg}, {"Alloc", api.ErrFull},
	{"Set", api.OK}, {"Set", api.ErrPtr}, {"Set", api.ErrRange}, {"Set", api.ErrAnnot},
	{"Get", api.OK}, {"Get", api.ErrPtr}, {"Get", api.ErrRange},
	{"SetGlobal", api.OK}, {"SetGlobal", api.ErrRange}, {"SetGlobal", api.ErrPtr}, {"Global", api.OK}, {"Global", api.ErrRange},
	{"Push", api.OK}, {"Push", api.ErrArg}, {"Pop", api.OK}, {"Pop", api.ErrNone},
	{"SetSlot", api.OK}, {"SetSlot", api.ErrNone}, {"SetSlot", api.ErrRange}, {"SetSlot", api.ErrPtr},
	{"Slot", api.OK}, {"Slot", api.ErrNone}, {"Slot", api.ErrRange}, {"Count", api.OK}, {"Count", api.ErrNone},
}

// TestP19_1MixedRows: long mixed rows of all calls, wrong ones among them, of heaps of all sizes; behind each one all that the heap tells is as the plain one says.
func TestP19_1MixedRows(t *testing.T) {
	met := mixedRows(t, func(p *pair) { p.Helper(); p.wantPlain() })
	for _, a := range often {
		if met[a] < 20 {
			t.Errorf("%s answered %v %d times: the rows are too tame", a.call, a.e, met[a])
		}
	}
}
