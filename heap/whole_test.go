package heap_test

import (
	"testing"

	"kraal/api"
)

// wantWhole: each pointer among objects and roots is 0, or the address of an object that is told; one of the kind Same is of its holder's region, one Up of that, or one above it.
func (p *pair) wantWhole() {
	p.Helper()
	objects := p.heap.Objects()
	begins := map[uint64]int{0: 0}
	for _, o := range objects {
		if begins[uint64(o.At)] != 0 {
			p.Errorf("two objects begin at %d", o.At)
		}
		begins[uint64(o.At)] = o.Region
	}
	for _, o := range objects {
		for i, v := range o.Values {
			target, ok := begins[v]
			switch kind := o.Kinds[i]; {
			case kind == api.Scalar:
			case !ok:
				p.Errorf("field %d of the object at %d points to %d, at which none begins", i, o.At, v)
			case v != 0 && (kind == api.Same && target != o.Region || kind == api.Up && !p.plain.within(o.Region, target)):
				p.Errorf("field %d of the object at %d, of region %d, of the kind %d, points to region %d", i, o.At, o.Region, kind, target)
			}
		}
	}
	for i, v := range p.heap.Roots() {
		if _, ok := begins[v]; !ok {
			p.Errorf("root %d points to %d, at which no object begins", i, v)
		}
	}
}

// TestP19_3MixedRows: behind each call of long mixed rows.
func TestP19_3MixedRows(t *testing.T) {
	mixedRows(t, func(p *pair) { p.Helper(); p.wantWhole() })
}

// TestP19_3EveryRow: behind every row of three calls at a small heap.
func TestP19_3EveryRow(t *testing.T) {
	everyRow(t, func(p *pair) { p.Helper(); p.wantWhole() })
}

// TestP19_3EveryWord: every word that there is, and more, set to every pointer: nothing but 0 and objects' addresses stays.
func TestP19_3EveryWord(t *testing.T) {
	p := beside(t)
	p.push(1)
	values := append([]uint64{}, huge...)
	for v := range uint64(16*p.heap.Len() + 17) {
		values = append(values, v)
	}
	for _, v := range values {
		for i := range uint64(4) {
			p.set(17, i, v)
			p.set(70, i, v)
		}
		p.setGlobal(0, v)
		p.setSlot(0, v)
		p.wantWhole()
		p.wantSwept()
	}
}

// TestP19_3DeleteEvery: from all sides something points to each region; whichever of them Delete lets go, nothing points to it then.
func TestP19_3DeleteEvery(t *testing.T) {
	for holder := range uint64(7) {
		for target := range uint64(5) {
			p := beside(t)
			v := 16*target + 1
			switch holder {
			case 5:
				p.setGlobal(1, v)
			case 6:
				p.push(1)
				p.setSlot(0, v)
			default:
				for i := range uint64(4) {
					p.set(16*holder+1, i, v)
				}
			}
			for range 2 {
				for id := uint64(5); id > 0; id-- {
					p.delete(id)
					p.wantWhole()
					p.wantPlain()
				}
			}
		}
	}
}
