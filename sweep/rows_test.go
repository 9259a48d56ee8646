package sweep_test

import (
	"math"
	"testing"

	"kraal/api"
)

// oneField are all objects of these places and regions, without a field, and with one of these kinds and values.
func oneField(places, regions, kinds []int, values []uint64) []api.Object {
	var all []api.Object
	for _, at := range places {
		for _, region := range regions {
			all = append(all, object(at, region))
			for _, kind := range kinds {
				for _, v := range values {
					all = append(all, object(at, region, field{kind, v}))
				}
			}
		}
	}
	return all
}

// TestP18_1EveryPair: every list of one object and of two of few places, regions, kinds and values, with roots and without, against the plain enumeration.
func TestP18_1EveryPair(t *testing.T) {
	all := oneField([]int{-1, 0, 1, 2}, []int{-1, 0, 1, 2}, []int{0, 1, 2}, []uint64{0, 1, 2, math.MaxUint64})
	for _, first := range all {
		wantPlain(t, plain{[]api.Object{first}, []uint64{1, 0, 2, 1, math.MaxUint64}}, -1, 0, 1, 2)
		for i, second := range all {
			var roots []uint64
			if i%2 == 1 {
				roots = []uint64{2, 1, 2, 0}
			}
			wantPlain(t, plain{[]api.Object{first, second}, roots})
		}
		if t.Failed() {
			t.FailNow()
		}
	}
}

// shape is how mixed lists are made: how many objects at most, at how many places, of how many regions, of how many fields at most.
type shape struct{ objects, places, regions, fields int }

var shapes = []shape{{1, 2, 1, 3}, {2, 3, 2, 3}, {4, 4, 3, 4}, {8, 9, 4, 5}, {20, 30, 5, 6}, {40, 30, 9, 3}, {60, 200, 12, 8}}

// words are places' words, with 0 and some that are none among them.
func (m *mixed) words(n, places int) []uint64 {
	var words []uint64
	for range n {
		v := uint64(1 + m.next(places))
		switch m.next(12) {
		case 0:
			v = 0
		case 1:
			v = -v
		case 2:
			v += 1 << 63
		case 3:
			v += 1 << 32
		}
		words = append(words, v)
	}
	return words
}

// kinds are kinds of fields, counted ones more often than others, with some that are none among them.
func (m *mixed) kinds(n int) []int {
	choice := []int{1, 1, 1, 1, 1, 2, 3, 0, 4, -1, math.MaxInt, 1<<32 + 1}
	var kinds []int
	for range n {
		kinds = append(kinds, choice[m.next(len(choice))])
	}
	return kinds
}

// one is a mixed object. The lists of its kinds and of its values mostly are of one length.
func (m *mixed) one(s shape) api.Object {
	at, region := 1+m.next(s.places), 1+m.next(s.regions)
	if m.next(10) == 0 {
		at = -m.next(s.places)
	}
	if m.next(8) == 0 {
		region = -m.next(3)
	}
	n := m.next(s.fields + 1)
	kinds, values := n, n
	if m.next(4) == 0 {
		kinds, values = m.next(s.fields+1), m.next(s.fields+1)
	}
	return api.Object{At: at, Region: region, Kinds: m.kinds(kinds), Values: m.words(values, s.places)}
}

// some are mixed objects, and roots.
func (m *mixed) some(s shape) plain {
	var p plain
	for range m.next(s.objects + 1) {
		p.objects = append(p.objects, m.one(s))
	}
	p.roots = m.words(m.next(s.objects+2), s.places)
	return p
}

// TestP18_1Mixed: many mixed lists of all lengths, several objects at one place among them, against the plain enumeration.
func TestP18_1Mixed(t *testing.T) {
	for seed, s := range shapes {
		m := mixed(seed + 1)
		for range 6000 / (s.objects + 5) {
			wantPlain(t, m.some(s), -3, -2, -1, 0, 1, 2, 3, s.regions+1, math.MaxInt, math.MinInt)
			if t.Failed() {
				t.FailNow()
			}
		}
	}
}

// TestP18_1MixedHuge: mixed lists, the numbers of whose regions and places are great ones.
func TestP18_1MixedHuge(t *testing.T) {
	for seed, s := range shapes {
		m := mixed(seed + 100)
		for range 2000 / (s.objects + 5) {
			p := m.some(s)
			for i := range p.objects {
				o := &p.objects[i]
				o.Region = huge(o.Region)
				o.At = huge(o.At)
				for j, v := range o.Values {
					o.Values[j] = uint64(huge(int(v)))
				}
			}
			for i, v := range p.roots {
				p.roots[i] = uint64(huge(int(v)))
			}
			wantPlain(t, p, wrong...)
			if t.Failed() {
				t.FailNow()
			}
		}
	}
}

// huge makes a number a great one, or one far below 0, that is its own.
func huge(n int) int {
	switch n % 3 {
	case 0:
		return n
	case 1:
		return math.MaxInt - n
	default:
		return n<<32 + 1
	}
}
