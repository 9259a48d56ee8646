package slot_test

import (
	"math"
	"slices"
	"testing"

	"kraal/api"
	"kraal/slot"
)

// TestP13_1OneObject is told in plain numbers.
func TestP13_1OneObject(t *testing.T) {
	y := newLand(t, 8)
	o := api.Object{At: 4, Region: 7, Head: api.Head{Type: 2, N: 4}, Kinds: []int{0, 1, 3, 2}, Values: []uint64{1, 2, 3, 4}}
	y.wantLoad(o, 2, 6+1<<40)
	x := y.wantStore(o, 2, 99, api.Object{At: 4, Region: 7, Head: api.Head{Type: 2, N: 4}, Kinds: []int{0, 1, 3, 2}, Values: []uint64{1, 2, 99, 4}})
	y.wantLoad(o, 2, 99)
	y.wantLoad(x, 2, 99)
	y.wantStore(x, 0, 5, api.Object{At: 4, Region: 7, Head: api.Head{Type: 2, N: 4}, Kinds: []int{0, 1, 3, 2}, Values: []uint64{5, 2, 99, 4}})
	y.wantStore(x, 3, 0, api.Object{At: 4, Region: 7, Head: api.Head{Type: 2, N: 4}, Kinds: []int{0, 1, 3, 2}, Values: []uint64{1, 2, 99, 0}})
	want := []uint64{1 << 40, 1 + 1<<40, 2 + 1<<40, 3 + 1<<40, 5, 5 + 1<<40, 99, 0}
	if got := y.mem.All(); !slices.Equal(got, want) {
		t.Errorf("the words are %v, want %v", got, want)
	}
	y.wantNeither(x, 4, api.ErrRange)
}

// TestP13_1EveryPlace holds loads and stores at every place about few words, with every number of Kinds, Values and fields, against the plain ones.
func TestP13_1EveryPlace(t *testing.T) {
	for n := range 5 {
		for at := -4; at <= n+2; at++ {
			for kinds := range 5 {
				for values := range 6 {
					y := newLand(t, n)
					o := thing(at, kindsInTurn(kinds, at+4), valuesFrom(50, values))
					for i := range uint64(7) {
						y.load(o, i)
						y.store(o, i, 900+i)
						y.load(o, i)
					}
				}
			}
		}
	}
}

// TestP13_1FirstAndLastField: the first field and the last one, of objects of one field and of many; just so many as there are Kinds is too many.
func TestP13_1FirstAndLastField(t *testing.T) {
	for _, n := range []int{1, 2, 3, 60, 300} {
		y := newLand(t, n+40)
		for _, at := range []int{0, 1, 17, 40} {
			o := thing(at, kindsInTurn(n, 1), valuesFrom(5, n))
			for _, i := range []int{0, n - 1} {
				y.wantLoad(o, uint64(i), y.cells[at+i])
				want := copied(o)
				want.Values[i] = 77
				y.wantStore(o, uint64(i), 77, want)
			}
			y.wantNeither(o, uint64(n), api.ErrRange)
			y.wantNeither(o, uint64(n)+1, api.ErrRange)
		}
	}
}

// TestP13_1MemoryEdges: an object at word 0; one whose last field is the last word; one whose last field is one word behind it.
func TestP13_1MemoryEdges(t *testing.T) {
	for _, n := range []int{1, 2, 60, 4000} {
		y := newLand(t, n)
		o := thing(0, kindsInTurn(n, 0), nil)
		y.wantLoad(o, 0, 1<<40)
		y.wantLoad(o, uint64(n)-1, uint64(n)-1+1<<40)
		y.wantStore(o, uint64(n)-1, 5, o)
		y.wantStore(o, 0, 6, o)

		y = newLand(t, n+9)
		o.At = 9
		y.wantLoad(o, uint64(n)-1, uint64(n)+8+1<<40)
		y.wantStore(o, uint64(n)-1, 7, o)
		o.At = 10
		y.wantNeither(o, uint64(n)-1, api.ErrRange)
		if n > 1 {
			y.wantLoad(o, uint64(n)-2, 7)
			y.wantStore(o, uint64(n)-2, 8, o)
		}
	}
	y := newLand(t, api.MaxWords)
	o := thing(api.MaxWords-1, []int{1, 1}, []uint64{3, 4})
	y.wantStore(o, 0, 9, thing(api.MaxWords-1, []int{1, 1}, []uint64{9, 4}))
	y.wantNeither(o, 1, api.ErrRange)
	newLand(t, 0).wantNeither(thing(0, []int{0}, []uint64{1}), 0, api.ErrRange)
}

// TestP13_1BelowTheFirstWord: of an object that begins below 0 the fields that stand at words are there, the ones ahead of them aren't.
func TestP13_1BelowTheFirstWord(t *testing.T) {
	y := newLand(t, 3)
	o := thing(-2, []int{1, 2, 3, 0, 1, 2}, []uint64{10, 11, 12, 13, 14, 15})
	y.wantNeither(o, 0, api.ErrRange)
	y.wantNeither(o, 1, api.ErrRange)
	y.wantLoad(o, 2, 1<<40)
	y.wantStore(o, 2, 5, thing(-2, o.Kinds, []uint64{10, 11, 5, 13, 14, 15}))
	y.wantStore(o, 4, 6, thing(-2, o.Kinds, []uint64{10, 11, 12, 13, 6, 15}))
	y.wantNeither(o, 5, api.ErrRange)
	y.wantNeither(o, 6, api.ErrRange)
}

// TestP13_1HugePlaces: places that no memory has, also such that a field's place would be greater than any int.
func TestP13_1HugePlaces(t *testing.T) {
	y := newLand(t, 20)
	for _, at := range huge {
		for _, n := range []int{0, 1, 5} {
			o := thing(at, kindsInTurn(n, 1), valuesFrom(1, n))
			for i := range uint64(n) + 2 {
				if i >= uint64(n) || at < -4 || at > 20 {
					y.wantNeither(o, i, api.ErrRange)
				} else {
					y.store(o, i, 1000+i)
				}
			}
		}
	}
	for _, at := range []int{math.MaxInt, math.MaxInt - 30, math.MinInt} {
		o := thing(at, kindsInTurn(5000, 1), nil)
		for i := range uint64(5000) {
			if v, e := slot.Load(y.mem, o, i); v != 0 || e != api.ErrRange {
				t.Fatalf("Load at %d, field %d: got %d, %v", at, i, v, e)
			}
		}
	}
	y.wantCells()
}

// TestP13_1WrongNumbers: numbers of fields that no object has, in a memory that has all its fields.
func TestP13_1WrongNumbers(t *testing.T) {
	y := newLand(t, 20)
	for _, at := range slices.Concat([]int{0, 1, 10, 19, 20}, huge) {
		for _, o := range []api.Object{thing(at, nil, nil), thing(at, nil, valuesFrom(1, 300)), thing(at, kindsInTurn(4, 0), nil), thing(at, kindsInTurn(4, 0), valuesFrom(1, 300))} {
			for _, i := range wrongNumbers {
				y.wantNeither(o, i, api.ErrRange)
			}
		}
	}
}

// TestP13_1Values: fewer of them than Kinds, as many, more, and none; just the one with the field's number is another one then.
func TestP13_1Values(t *testing.T) {
	y := newLand(t, 20)
	kinds := []int{1, 0, 2, 3}
	for n := range 9 {
		o := thing(6, kinds, valuesFrom(30, n))
		for i := range kinds {
			want := copied(o)
			if i < n {
				want.Values[i] = 1 << 50
			}
			y.wantStore(o, uint64(i), 1<<50, want)
		}
		y.wantNeither(o, 4, api.ErrRange)
	}
	// What Values say isn't what is loaded.
	y.wantLoad(thing(2, kinds, []uint64{8, 8, 8, 8}), 1, 3+1<<40)
}

// TestP13_1AnyKind: kinds that are none are loaded and stored like others.
func TestP13_1AnyKind(t *testing.T) {
	y := newLand(t, len(wrongKinds)+8)
	kinds := slices.Concat([]int{0, 1, 2, 3}, wrongKinds)
	o := thing(2, kinds, valuesFrom(1, len(kinds)))
	for i := range kinds {
		y.wantLoad(o, uint64(i), uint64(2+i)+1<<40)
		want := copied(o)
		want.Values[i] = uint64(i) << 55
		y.wantStore(o, uint64(i), uint64(i)<<55, want)
	}
}

// TestP13_1NoMemory: of a nil memory, ErrArg, but of a field that isn't there, ErrRange.
func TestP13_1NoMemory(t *testing.T) {
	for _, at := range slices.Concat([]int{0, 1, 5, 20}, huge) {
		for n := range 4 {
			for _, values := range [][]uint64{nil, valuesFrom(1, n), valuesFrom(1, 9)} {
				o := thing(at, kindsInTurn(n, 1), values)
				for _, i := range slices.Concat([]uint64{0, 1, 2, 3, 4, 5}, wrongNumbers) {
					want := api.ErrArg
					if i >= uint64(n) {
						want = api.ErrRange
					}
					if v, e := slot.Load(nil, o, i); v != 0 || e != want {
						t.Errorf("Load of none, %+v, %d: got %d, %v, want %v", o, i, v, e, want)
					}
					if x, e := slot.Store(nil, o, i, 8); !alike(x, api.Object{}) || e != want {
						t.Errorf("Store of none, %+v, %d: got %+v, %v, want %v", o, i, x, e, want)
					}
				}
			}
		}
	}
}

// TestP13_2EveryField: each field of objects of many sizes and places stored and loaded again, with words of all sorts; the other fields, and all other words, stay.
func TestP13_2EveryField(t *testing.T) {
	for _, n := range []int{1, 2, 4, 7, 60} {
		for _, at := range []int{0, 1, 15, 16, 30} {
			y := newLand(t, at+n+5)
			o := thing(at, kindsInTurn(n, at), y.cells[at:at+n:at+n])
			o = copied(o)
			for i := range n {
				for _, v := range someWords {
					want := copied(o)
					want.Values[i] = v
					o = y.wantStore(o, uint64(i), v, want)
					y.wantLoad(o, uint64(i), v)
				}
				if !slices.Equal(o.Values, y.cells[at:at+n]) {
					t.Errorf("the values are %v, the words %v", o.Values, y.cells[at:at+n])
				}
			}
		}
	}
}

// TestP13_2LastOneCounts: stored again, through the object that was handed in or the one that was answered, the last one counts.
func TestP13_2LastOneCounts(t *testing.T) {
	y := newLand(t, 10)
	o := thing(3, []int{0, 1, 2}, []uint64{1, 2, 3})
	x := y.wantStore(o, 1, 10, thing(3, o.Kinds, []uint64{1, 10, 3}))
	z := y.wantStore(o, 1, 11, thing(3, o.Kinds, []uint64{1, 11, 3}))
	for _, each := range []api.Object{o, x, z} {
		y.wantLoad(each, 1, 11)
	}
	y.wantStore(x, 1, 12, thing(3, o.Kinds, []uint64{1, 12, 3}))
	for _, each := range []api.Object{o, x, z} {
		y.wantLoad(each, 1, 12)
		y.wantLoad(each, 0, 3+1<<40)
		y.wantLoad(each, 2, 5+1<<40)
	}
	// The same word again: nothing is another one.
	y.wantStore(z, 1, 11, z)
}

// TestP13_2SharedWords: two objects whose fields stand in the same words: what is stored through one is loaded through the other.
func TestP13_2SharedWords(t *testing.T) {
	y := newLand(t, 10)
	a, b := thing(2, []int{0, 1, 2, 3}, nil), thing(4, []int{3, 3, 3}, nil)
	y.wantStore(a, 3, 70, a)
	y.wantLoad(b, 1, 70)
	y.wantStore(b, 0, 71, b)
	y.wantLoad(a, 2, 71)
	y.wantStore(b, 2, 72, b)
	y.wantLoad(a, 3, 70)
}

// TestP13_2Mixed: long mixed rows of loads and stores of several objects, that stand in one another too, good ones and wrong ones.
func TestP13_2Mixed(t *testing.T) {
	for seed := range 6 {
		m := mixed(seed + 1)
		y := newLand(t, 30+seed)
		var objects []api.Object
		for range 8 {
			n := m.next(9)
			objects = append(objects, thing(m.next(40)-5, kindsInTurn(n, m.next(4)), valuesFrom(uint64(m.next(100)), m.next(11))))
		}
		for range 3000 {
			which := m.next(len(objects))
			i := uint64(m.next(10))
			if m.next(12) == 0 {
				i = wrongNumbers[m.next(len(wrongNumbers))]
			}
			if m.next(3) == 0 {
				y.load(objects[which], i)
				continue
			}
			v := uint64(m.next(1000))
			if x, e := y.store(objects[which], i, v); e == api.OK {
				objects[which] = x
				y.wantLoad(x, i, v)
			}
		}
	}
}
