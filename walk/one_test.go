package walk_test

import (
	"testing"

	"kraal/api"
	"kraal/walk"
	"kraal/words"
)

func TestP12_1Example(t *testing.T) {
	types := []api.Desc{{Fields: []int{0}}, {Fields: []int{0, 1}}}
	y := newLand(t, 9)
	y.wantPut(run(4, 3), object(1, 2), api.OK)
	want := api.Object{At: 5, Head: object(1, 2), Kinds: []int{0, 1}, Values: []uint64{0, 0}}
	y.wantOne(types, want)
	y.wantObjects(types, []api.Run{run(4, 3)}, want)
}

// TestP12_1OneWrittenOut: the words of objects of all sorts, and what is told of them.
func TestP12_1OneWrittenOut(t *testing.T) {
	types := someTypes()
	for _, x := range []struct {
		cells []uint64
		want  api.Object
	}{
		{[]uint64{65537, 8}, api.Object{At: 1, Head: object(0, 1), Kinds: []int{0}, Values: []uint64{8}}},
		{[]uint64{5, 131329, 8, 9, 5}, api.Object{At: 2, Head: object(1, 2), Kinds: []int{1, 2}, Values: []uint64{8, 9}}},
		{[]uint64{328193, 5, 4, 3, 2, 1, 0}, api.Object{At: 1, Head: object(2, 5), Kinds: []int{3, 0, 1, 2, 3}, Values: []uint64{5, 4, 3, 2, 1}}},
		{[]uint64{3, 8}, api.Object{At: 1, Head: array(0, 0)}},
		{[]uint64{15, 8}, api.Object{At: 1, Head: array(3, 0)}},
		{[]uint64{65539, 1<<64 - 1}, api.Object{At: 1, Head: array(0, 1), Kinds: []int{0}, Values: []uint64{1<<64 - 1}}},
		{[]uint64{1, 131079, 1 << 63, 8, 2}, api.Object{At: 2, Head: array(1, 2), Kinds: []int{1, 1}, Values: []uint64{1 << 63, 8}}},
		{[]uint64{196619, 0, 1, 0}, api.Object{At: 1, Head: array(2, 3), Kinds: []int{2, 2, 2}, Values: []uint64{0, 1, 0}}},
		{[]uint64{0, 0, 196623, 3, 2, 1}, api.Object{At: 3, Head: array(3, 3), Kinds: []int{3, 3, 3}, Values: []uint64{3, 2, 1}}},
	} {
		y := laid(t, x.cells...)
		y.wantOne(types, x.want)
		y.wantObjects(types, []api.Run{run(x.want.At-1, sizeOf(x.want.Head))}, x.want)
	}
}

// TestP12_1FieldsThatAreHeads: what stands in fields is told as it is, also where it is a head's word; and there an object begins, too.
func TestP12_1FieldsThatAreHeads(t *testing.T) {
	types := someTypes()
	y := laid(t, 196615, 131329, 65539, 7, 9)
	y.wantOne(types, api.Object{At: 1, Head: array(1, 3), Kinds: []int{1, 1, 1}, Values: []uint64{131329, 65539, 7}})
	y.wantOne(types, api.Object{At: 2, Head: object(1, 2), Kinds: []int{1, 2}, Values: []uint64{65539, 7}})
	y.wantOne(types, api.Object{At: 3, Head: array(0, 1), Kinds: []int{0}, Values: []uint64{7}})
	y.wantOne(types, api.Object{At: 4, Head: array(1, 0)})
	y.wantNone(types, 5, api.ErrForm)
}

// TestP12_1AtTheEdges: the first place at which an object may begin, and the last ones; a field behind the last word isn't there.
func TestP12_1AtTheEdges(t *testing.T) {
	types := someTypes()
	for _, h := range []api.Head{object(0, 1), object(1, 2), object(2, 5), object(3, 60), array(0, 1), array(1, 2), array(2, 7), array(3, 4000)} {
		w, _ := plainWord(h)
		for _, n := range []int{h.N + 1, h.N + 5, api.MaxWords} {
			y := newLand(t, n)
			y.write(0, w)
			if o, e := y.one(1, types); e != api.OK || o.Head != h {
				t.Errorf("%+v at the word 1 of %d: got %v", h, n, e)
			}
			// Its last field is the last word; one word further on that field would be behind it.
			y = newLand(t, n)
			y.write(n-h.N-1, w)
			if o, e := y.one(n-h.N, types); e != api.OK || o.Values[h.N-1] != uint64(n-1)+1<<40 {
				t.Errorf("%+v at the end of %d words: got %v", h, n, e)
			}
			y.write(n-h.N, w)
			y.wantNone(types, n-h.N+1, api.ErrRange)
			y.write(n-1, w)
			y.wantNone(types, n, api.ErrRange)
		}
	}
}

// TestP12_1NoFieldAtTheEnd: an array of no element has no field that could be missing, even where its head is the last word.
func TestP12_1NoFieldAtTheEnd(t *testing.T) {
	for kind := range 4 {
		for _, n := range []int{1, 2, 16, api.MaxWords} {
			y := newLand(t, n)
			y.write(n-1, uint64(3+4*kind))
			y.wantOne(nil, api.Object{At: n, Head: array(kind, 0)})
			y.wantNone(nil, n+1, api.ErrRange)
		}
	}
}

// TestP12_1WrongPlaces: no word stands ahead of them.
func TestP12_1WrongPlaces(t *testing.T) {
	for _, cells := range [][]uint64{nil, {7}, {65539, 7}, {3, 7, 11, 15}, {196615, 3, 7, 65537, 3}} {
		y := laid(t, cells...)
		for _, types := range [][]api.Desc{nil, someTypes()} {
			y.wantNone(types, 0, api.ErrRange)
			for beyond := 1; beyond < 9; beyond++ {
				y.wantNone(types, -beyond, api.ErrRange)
				y.wantNone(types, len(cells)+beyond, api.ErrRange)
			}
			for _, at := range huge {
				y.wantNone(types, at, api.ErrRange)
			}
		}
		y.wantCells()
	}
	y := newLand(t, api.MaxWords)
	y.write(0, 7)
	y.write(api.MaxWords-1, 7)
	y.wantOne(nil, api.Object{At: 1, Head: array(1, 0)})
	y.wantOne(nil, api.Object{At: api.MaxWords, Head: array(1, 0)})
	for _, at := range append([]int{0, api.MaxWords + 1}, huge...) {
		y.wantNone(nil, at, api.ErrRange)
	}
}

// TestP12_1NoHead: words that are no head's, wherever they stand and whatever is missing behind them.
func TestP12_1NoHead(t *testing.T) {
	for _, w := range []uint64{
		0, 1, 2, 4, 5, 6, 19, 65536, 65537 + 4, 65539 + 16, 65539 + 256, 65537 + 32*256, 61*65536 + 1, 4001*65536 + 3, 4000*65536 + 1,
		131329 - 1, 131329 + 1<<32, 131329 + 1<<48, 131329 + 1<<63, 65539 + 1<<40, 1 << 40, 1 << 63, 1<<64 - 1,
	} {
		for _, types := range [][]api.Desc{nil, someTypes()} {
			y := laid(t, w, 7, 7, 7, w)
			y.wantNone(types, 1, api.ErrForm)
			y.wantNone(types, 5, api.ErrForm)
			y.wantNoObjects(types, []api.Run{run(0, 3)}, api.ErrForm)
			y.wantNoObjects(types, []api.Run{run(4, 1)}, api.ErrForm)
		}
	}
}

// TestP12_1Types: types that aren't in the list, and such as have other numbers of fields, are told as layer 7 tells them.
func TestP12_1Types(t *testing.T) {
	y := newLand(t, 100)
	for typ := range 32 {
		for n := 1; n <= 60; n++ {
			w, _ := plainWord(object(typ, n))
			y.write(10, w)
			y.wantNone(nil, 11, api.ErrNone)
			y.wantNone([]api.Desc{}, 11, api.ErrNone)
			ahead := make([]api.Desc, typ)
			y.wantNone(ahead, 11, api.ErrNone)
			for _, fields := range []int{0, 1, n - 1, n + 1, 60, 61, n + 65536} {
				if fields != n {
					y.wantNone(append(ahead, api.Desc{Fields: make([]int, fields)}), 11, api.ErrArg)
				}
			}
			kinds := kindsInTurn(n)
			y.wantOne(append(ahead, api.Desc{Fields: kinds}), api.Object{At: 11, Head: object(typ, n), Kinds: kinds, Values: y.cells[11 : 11+n]})
		}
	}
}

// TestP12_1ListsThatMayNotBe: a list isn't asked whether it may be; what stands in it is told, and arrays don't ask for it at all.
func TestP12_1ListsThatMayNotBe(t *testing.T) {
	y := laid(t, 196865, 5, 6, 7, 65543, 8, 65537, 9)
	long := make([]api.Desc, 40)
	long[0].Fields, long[1].Fields = []int{4}, []int{-1, 1 << 40, 9}
	five := api.Object{At: 5, Head: array(1, 1), Kinds: []int{1}, Values: []uint64{8}}
	y.wantOne(long, api.Object{At: 1, Head: object(1, 3), Kinds: []int{-1, 1 << 40, 9}, Values: []uint64{5, 6, 7}})
	y.wantOne(long, api.Object{At: 7, Head: object(0, 1), Kinds: []int{4}, Values: []uint64{9}})
	y.wantOne(long, five)
	for _, types := range [][]api.Desc{nil, {{}}, {{Fields: make([]int, 61)}, {}}, make([]api.Desc, 33)} {
		y.wantOne(types, five)
	}
	y.wantNone([]api.Desc{{}, {}}, 1, api.ErrArg)
	y.wantNone([]api.Desc{{}, {Fields: make([]int, 61)}}, 1, api.ErrArg)
}

// TestP12_1FirstNamedError: where more than one thing is wrong, the one is told that the chapter names first.
func TestP12_1FirstNamedError(t *testing.T) {
	types := someTypes()
	// No head's word, whose fields, taken for one's, would be missing as well, and whose type isn't there.
	y := laid(t, 7, 60*65536+31*256+5)
	y.wantNone(nil, 2, api.ErrForm)
	// A type that isn't there, and fields that aren't.
	y = laid(t, 7, 60*65536+31*256+1)
	y.wantNone(nil, 2, api.ErrNone)
	y.wantNone(types, 2, api.ErrNone)
	// Another number of fields than the type has, and fields that aren't there.
	y = laid(t, 7, 60*65536+256+1)
	y.wantNone(nil, 2, api.ErrNone)
	y.wantNone(types, 2, api.ErrArg)
	// Fields that aren't there, of a type that is, and of an array.
	y = laid(t, 7, 2*65536+256+1)
	y.wantNone(types, 2, api.ErrRange)
	y = laid(t, 7, 2*65536+7)
	y.wantNone(nil, 2, api.ErrRange)
}

// TestP12_1NilMemory: whatever else is handed in beside it.
func TestP12_1NilMemory(t *testing.T) {
	none, e := words.New(-1)
	if none != nil || e != api.ErrArg {
		t.Fatalf("words.New(-1): got %v, %v", none, e)
	}
	for _, m := range []*words.Mem{nil, none} {
		for _, types := range [][]api.Desc{nil, {{}}, someTypes()} {
			for _, at := range append([]int{0, 1, 5, 16384}, huge...) {
				if o, e := walk.One(m, at, types); e != api.ErrArg || !alike(o, api.Object{}) {
					t.Errorf("One(%d): got %+v, %v", at, o, e)
				}
				for _, things := range [][]api.Run{nil, {}, {run(at, 2)}, {run(at, at)}, {run(1, 2), run(at, 3)}} {
					if l, e := walk.Objects(m, things, types); e != api.ErrArg || len(l) != 0 {
						t.Errorf("Objects(%v): got %+v, %v", things, l, e)
					}
				}
			}
		}
		for _, from := range append([]int{0, 1, 5, 16384}, huge...) {
			for _, h := range []api.Head{{}, array(1, 0), array(1, 1), array(4, 1), object(1, 2), object(0, 61)} {
				for n := range 4 {
					if e := walk.Put(m, run(from, n), h); e != api.ErrArg {
						t.Errorf("Put(%v, %+v): got %v", run(from, n), h, e)
					}
				}
			}
		}
	}
}

// TestP12_1EveryMemory holds One and Objects of one thing against the plain ones: every row of four words, among them all sorts of heads, and every place and run about them.
func TestP12_1EveryMemory(t *testing.T) {
	sorts := []uint64{0, 7, 65537, 131329, 65539, 131083, 196623}
	lists := [][]api.Desc{nil, {{Fields: []int{1}}}, {{Fields: []int{2}}, {Fields: []int{3, 0}}}, {{Fields: []int{0, 0}}, {Fields: []int{1}}}}
	y := newLand(t, 4)
	for row := range 7 * 7 * 7 * 7 {
		for at := range 4 {
			y.write(at, sorts[row%7])
			row /= 7
		}
		for _, types := range lists {
			for at := -1; at <= 6; at++ {
				y.one(at, types)
				for n := -1; n <= 5; n++ {
					y.objects([]api.Run{run(at-1, n)}, types)
				}
			}
		}
		if t.Failed() {
			t.Fatalf("of the words %v", y.cells)
		}
	}
	y.wantCells()
}
