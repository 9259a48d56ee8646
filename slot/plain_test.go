package slot_test

import (
	"math"
	"slices"
	"testing"

	"kraal/api"
	"kraal/slot"
	"kraal/words"
)

// huge are places that no memory has, and, cut short or wrapped round, some that it has.
var huge = []int{
	-1, -2, -3, -5, -16384, -1 << 31, -1 << 32, -1<<32 + 3, math.MinInt, math.MinInt + 1, math.MinInt + 3, math.MinInt + 4,
	16384, 16385, 1<<16 + 3, 1<<31 - 1, 1 << 31, 1 << 32, 1<<32 + 3, 1<<62 + 3, math.MaxInt - 5, math.MaxInt - 3, math.MaxInt - 1, math.MaxInt,
}

// wrongNumbers are numbers of fields that no object has, and, cut short or wrapped round, some that it has.
var wrongNumbers = []uint64{
	1 << 8, 1 << 16, 1<<31 - 1, 1 << 31, 1 << 32, 1<<32 + 1, 1<<32 + 3, 1<<48 + 2, 1<<62 + 1,
	1<<63 - 1, 1 << 63, 1<<63 + 1, 1<<63 + 3, 1<<64 - 4, 1<<64 - 3, 1<<64 - 2, 1<<64 - 1,
}

// wrongKinds are numbers that are no kind's, and, cut short or wrapped round, some that are one's.
var wrongKinds = []int{
	-1, -2, -3, -255, -256 + 1, 4, 5, 7, 8, 255, 1<<8 + 1, 1<<16 + 2, 1 << 31, 1<<32 + 1, 1<<32 + 2, 1<<32 + 3, -1<<32 + 1,
	math.MinInt, math.MinInt + 1, math.MinInt + 3, math.MaxInt - 1, math.MaxInt,
}

// someWords are small, huge, and such as would be heads.
var someWords = []uint64{0, 1, 2, 7, 131083, 131329, 1 << 31, 1<<32 + 5, 1<<63 - 1, 1 << 63, 1<<64 - 2, 1<<64 - 1}

// kindsInTurn are so many kinds, each in its turn, that one first.
func kindsInTurn(n, first int) []int {
	var kinds []int
	for i := range n {
		kinds = append(kinds, (first+i)%4)
	}
	return kinds
}

// valuesFrom are so many values, none like another.
func valuesFrom(first uint64, n int) []uint64 {
	var values []uint64
	for i := range n {
		values = append(values, first+uint64(i))
	}
	return values
}

// thing is an object at a place: its region and its head are such as nobody asks for.
func thing(at int, kinds []int, values []uint64) api.Object {
	return api.Object{At: at, Region: 7, Head: api.Head{Array: true, Kind: 9, Type: -3, N: 5}, Kinds: kinds, Values: values}
}

func alike(a, b api.Object) bool {
	return a.At == b.At && a.Region == b.Region && a.Head == b.Head && slices.Equal(a.Kinds, b.Kinds) && slices.Equal(a.Values, b.Values)
}

// copied is the same object, in lists of its own.
func copied(o api.Object) api.Object {
	o.Kinds, o.Values = slices.Clone(o.Kinds), slices.Clone(o.Values)
	return o
}

// plainKind is the kind of a field, sought among all of them.
func plainKind(o api.Object, i uint64) (int, bool) {
	for n, kind := range o.Kinds {
		if uint64(n) == i {
			return kind, true
		}
	}
	return 0, false
}

// plainPointers are told kind by kind.
func plainPointers(o api.Object) []int {
	var l []int
	for n, kind := range o.Kinds {
		switch kind {
		case api.Counted, api.Same, api.Up:
			l = append(l, n)
		}
	}
	return l
}

// land is a memory, and what its words should be.
type land struct {
	*testing.T
	mem   *words.Mem
	cells []uint64
}

// newLand is a land of so many words, none like another.
func newLand(t *testing.T, n int) *land {
	t.Helper()
	m, e := words.New(n)
	if e != api.OK {
		t.Fatalf("words.New(%d): got %v", n, e)
	}
	y := &land{T: t, mem: m}
	for at := range n {
		y.cells = append(y.cells, uint64(at)+1<<40)
		if e := m.Write(at, y.cells[at]); e != api.OK {
			t.Fatalf("Write(%d): got %v", at, e)
		}
	}
	return y
}

// plainWord is in which cell a field stands: the cells behind the place, one by one.
func (y *land) plainWord(o api.Object, i uint64) (int, api.Errno) {
	if _, is := plainKind(o, i); !is {
		return 0, api.ErrRange
	}
	for at := range y.cells {
		if at >= o.At && at-int(i) == o.At {
			return at, api.OK
		}
	}
	return 0, api.ErrRange
}

// load loads a field, and holds what is answered, and all words then, against the plain ones.
func (y *land) load(o api.Object, i uint64) (uint64, api.Errno) {
	y.Helper()
	at, wantErr := y.plainWord(o, i)
	want := uint64(0)
	if wantErr == api.OK {
		want = y.cells[at]
	}
	was := copied(o)
	v, e := slot.Load(y.mem, o, i)
	if v != want || e != wantErr {
		y.Errorf("Load(%+v, %d): got %d, %v, want %d, %v", o, i, v, e, want, wantErr)
	}
	y.wantCells()
	y.wantSame(o, was)
	return v, e
}

// store stores a field, and holds what is answered, and all words then, against the plain ones.
func (y *land) store(o api.Object, i, v uint64) (api.Object, api.Errno) {
	y.Helper()
	at, wantErr := y.plainWord(o, i)
	want := api.Object{}
	if wantErr == api.OK {
		y.cells[at] = v
		want = copied(o)
		for n := range want.Values {
			if uint64(n) == i {
				want.Values[n] = v
			}
		}
	}
	was := copied(o)
	x, e := slot.Store(y.mem, o, i, v)
	if e != wantErr || !alike(x, want) {
		y.Errorf("Store(%+v, %d, %d): got %+v, %v, want %+v, %v", o, i, v, x, e, want, wantErr)
	}
	y.wantCells()
	y.wantSame(o, was)
	return x, e
}

func (y *land) wantCells() {
	y.Helper()
	if got := y.mem.All(); !slices.Equal(got, y.cells) {
		y.Errorf("the words differ: got %v, want %v", got[:min(len(got), 40)], y.cells[:min(len(got), 40)])
	}
}

// wantSame: what was handed in is as it was.
func (y *land) wantSame(o, was api.Object) {
	y.Helper()
	if !alike(o, was) {
		y.Errorf("what was handed in was changed: got %+v, want %+v", o, was)
	}
}

// wantLoad: the field's word is that one.
func (y *land) wantLoad(o api.Object, i, want uint64) {
	y.Helper()
	if v, e := y.load(o, i); e != api.OK || v != want {
		y.Errorf("Load(%+v, %d): got %d, %v, want %d", o, i, v, e, want)
	}
}

// wantStore: it is stored, and the object that is answered is that one.
func (y *land) wantStore(o api.Object, i, v uint64, want api.Object) api.Object {
	y.Helper()
	x, e := y.store(o, i, v)
	if e != api.OK || !alike(x, want) {
		y.Errorf("Store(%+v, %d, %d): got %+v, %v, want %+v", o, i, v, x, e, want)
	}
	return x
}

// wantNeither: the field is neither loaded nor stored, for that reason.
func (y *land) wantNeither(o api.Object, i uint64, want api.Errno) {
	y.Helper()
	if v, e := y.load(o, i); e != want || v != 0 {
		y.Errorf("Load(%+v, %d): got %d, %v, want %v", o, i, v, e, want)
	}
	if x, e := y.store(o, i, 99); e != want || !alike(x, api.Object{}) {
		y.Errorf("Store(%+v, %d): got %+v, %v, want %v", o, i, x, e, want)
	}
}

// wantAt: the field stands there, and is of that kind.
func wantAt(t *testing.T, o api.Object, i uint64, want, wantKind int) {
	t.Helper()
	if at, kind, e := slot.At(o, i); at != want || kind != wantKind || e != api.OK {
		t.Errorf("At(%+v, %d): got %d, %d, %v, want %d, %d", o, i, at, kind, e, want, wantKind)
	}
}

// wantNotAt: there is no such field.
func wantNotAt(t *testing.T, o api.Object, i uint64) {
	t.Helper()
	if at, kind, e := slot.At(o, i); at != 0 || kind != 0 || e != api.ErrRange {
		t.Errorf("At(%+v, %d): got %d, %d, %v, want ErrRange", o, i, at, kind, e)
	}
}

func wantPointers(t *testing.T, o api.Object, want ...int) {
	t.Helper()
	if got := slot.Pointers(o); !slices.Equal(got, want) {
		t.Errorf("Pointers(%+v): got %v, want %v", o, got, want)
	}
}

// mixed is a row of numbers that come in no order that is plain to see, always the same.
type mixed uint64

// next is the next number, below that one.
func (m *mixed) next(under int) int {
	*m = *m*6364136223846793005 + 1442695040888963407
	return int(uint64(*m) >> 33 % uint64(under))
}
