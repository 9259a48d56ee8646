package walk_test

import (
	"math"
	"slices"
	"testing"

	"kraal/api"
	"kraal/walk"
	"kraal/words"
)

// huge are numbers of words that no memory has, and, cut short or wrapped round, some that it has.
var huge = []int{
	-1, -2, -3, -16384, -1 << 31, -1 << 32, -1<<32 + 3, math.MinInt, math.MinInt + 1, math.MinInt + 3, math.MinInt + 4,
	16385, 16386, 1<<16 + 3, 1<<31 - 1, 1 << 31, 1 << 32, 1<<32 + 3, 1<<62 + 3, math.MaxInt - 3, math.MaxInt - 1, math.MaxInt,
}

func array(kind, n int) api.Head { return api.Head{Array: true, Kind: kind, N: n} }

func object(typ, n int) api.Head { return api.Head{Type: typ, N: n} }

func run(from, n int) api.Run { return api.Run{From: from, N: n} }

// someTypes are of one field, of two, of five and of sixty.
func someTypes() []api.Desc {
	return []api.Desc{{Fields: []int{0}}, {Fields: []int{1, 2}}, {Fields: []int{3, 0, 1, 2, 3}}, {Fields: kindsInTurn(60)}}
}

// kindsInTurn are so many kinds, each in its turn.
func kindsInTurn(n int) []int {
	var kinds []int
	for i := range n {
		kinds = append(kinds, i%4)
	}
	return kinds
}

// sizeOf is how many words an object takes whose head may be.
func sizeOf(h api.Head) int {
	if h.N == 0 {
		return 2
	}
	return 1 + h.N
}

// plainWord is a head's word, told part by part; none of one that may not be.
func plainWord(h api.Head) (uint64, bool) {
	if h.Array {
		return uint64(3 + 4*h.Kind + 65536*h.N), slices.Contains([]int{0, 1, 2, 3}, h.Kind) && h.Type == 0 && h.N >= 0 && h.N <= 4000
	}
	return uint64(1 + 256*h.Type + 65536*h.N), h.Kind == 0 && h.Type >= 0 && h.Type <= 31 && h.N >= 1 && h.N <= 60
}

// plainHead is the head whose word this is, sought among all that have so many fields.
func plainHead(w uint64) (api.Head, bool) {
	if w >= 65536*4001 {
		return api.Head{}, false
	}
	n := int(w / 65536)
	heads := []api.Head{array(0, n), array(1, n), array(2, n), array(3, n)}
	for typ := range 32 {
		heads = append(heads, object(typ, n))
	}
	for _, h := range heads {
		if of, may := plainWord(h); may && of == w {
			return h, true
		}
	}
	return api.Head{}, false
}

// plainKinds are the kinds of the fields of an object whose head may be.
func plainKinds(types []api.Desc, h api.Head) ([]int, api.Errno) {
	if h.Array {
		var kinds []int
		for range h.N {
			kinds = append(kinds, h.Kind)
		}
		return kinds, api.OK
	}
	if h.Type >= len(types) {
		return nil, api.ErrNone
	}
	if len(types[h.Type].Fields) != h.N {
		return nil, api.ErrArg
	}
	return slices.Clone(types[h.Type].Fields), api.OK
}

// land is a memory, and what its words should be.
type land struct {
	*testing.T
	mem   *words.Mem
	cells []uint64
}

// newLand is a land of so many words, which all are somebody else's: none is 0, or a head's.
func newLand(t *testing.T, n int) *land {
	t.Helper()
	m, e := words.New(n)
	if e != api.OK {
		t.Fatalf("words.New(%d): got %v", n, e)
	}
	y := &land{T: t, mem: m, cells: make([]uint64, n)}
	for at := range n {
		y.write(at, uint64(at)+1<<40)
	}
	return y
}

// laid is a land of just these words.
func laid(t *testing.T, cells ...uint64) *land {
	t.Helper()
	y := newLand(t, len(cells))
	y.write(0, cells...)
	return y
}

// write writes words from a place on, as somebody does who knows nothing of objects.
func (y *land) write(at int, values ...uint64) {
	y.Helper()
	for i, v := range values {
		if e := y.mem.Write(at+i, v); e != api.OK {
			y.Fatalf("Write(%d): got %v", at+i, e)
		}
		y.cells[at+i] = v
	}
}

// plainOne is what One should answer.
func (y *land) plainOne(at int, types []api.Desc) (api.Object, api.Errno) {
	if at < 1 || at > len(y.cells) {
		return api.Object{}, api.ErrRange
	}
	h, is := plainHead(y.cells[at-1])
	if !is {
		return api.Object{}, api.ErrForm
	}
	kinds, e := plainKinds(types, h)
	if e != api.OK {
		return api.Object{}, e
	}
	if at+h.N > len(y.cells) {
		return api.Object{}, api.ErrRange
	}
	return api.Object{At: at, Head: h, Kinds: kinds, Values: slices.Clone(y.cells[at : at+h.N])}, api.OK
}

// plainObjects is what Objects should answer.
func (y *land) plainObjects(things []api.Run, types []api.Desc) ([]api.Object, api.Errno) {
	var l []api.Object
	for _, r := range things {
		if r.From == math.MaxInt {
			return nil, api.ErrRange
		}
		o, e := y.plainOne(r.From+1, types)
		if e != api.OK {
			return nil, e
		}
		if r.N != sizeOf(o.Head) {
			return nil, api.ErrForm
		}
		l = append(l, o)
	}
	return l, api.OK
}

// plainPut is what Put should answer, and do.
func (y *land) plainPut(r api.Run, h api.Head) api.Errno {
	w, may := plainWord(h)
	if !may || r.N != sizeOf(h) {
		return api.ErrArg
	}
	if r.From < 0 || r.From > len(y.cells)-r.N {
		return api.ErrRange
	}
	for i := range r.N {
		y.cells[r.From+i] = 0
	}
	y.cells[r.From] = w
	return api.OK
}

func alike(a, b api.Object) bool {
	return a.At == b.At && a.Region == b.Region && a.Head == b.Head && slices.Equal(a.Kinds, b.Kinds) && slices.Equal(a.Values, b.Values)
}

// one asks for the object at a place, and holds it against the plain one.
func (y *land) one(at int, types []api.Desc) (api.Object, api.Errno) {
	y.Helper()
	o, e := walk.One(y.mem, at, types)
	if want, wantErr := y.plainOne(at, types); e != wantErr || !alike(o, want) {
		y.Errorf("One(%d): got %+v, %v, want %+v, %v", at, o, e, want, wantErr)
	}
	return o, e
}

// objects asks for those of things, and holds them against the plain ones.
func (y *land) objects(things []api.Run, types []api.Desc) ([]api.Object, api.Errno) {
	y.Helper()
	l, e := walk.Objects(y.mem, things, types)
	if want, wantErr := y.plainObjects(things, types); e != wantErr || !slices.EqualFunc(l, want, alike) {
		y.Errorf("Objects(%v): got %+v, %v, want %+v, %v", things, l, e, want, wantErr)
	}
	return l, e
}

// put puts a head, and holds what is answered, and all words then, against the plain ones.
func (y *land) put(r api.Run, h api.Head) api.Errno {
	y.Helper()
	e := walk.Put(y.mem, r, h)
	if want := y.plainPut(r, h); e != want {
		y.Errorf("Put(%v, %+v): got %v, want %v", r, h, e, want)
	}
	y.wantCells()
	return e
}

func (y *land) wantCells() {
	y.Helper()
	if got := y.mem.All(); !slices.Equal(got, y.cells) {
		y.Errorf("the words differ: got %v, want %v", short(got), short(y.cells))
	}
}

// short is as much of a row as one likes to read.
func short(l []uint64) []uint64 { return l[:min(len(l), 40)] }

// wantOne: at that place there is just this object.
func (y *land) wantOne(types []api.Desc, want api.Object) {
	y.Helper()
	if o, e := y.one(want.At, types); e != api.OK || !alike(o, want) {
		y.Errorf("One(%d): got %+v, %v, want %+v", want.At, o, e, want)
	}
}

// wantNone: at that place there is none, for that reason.
func (y *land) wantNone(types []api.Desc, at int, want api.Errno) {
	y.Helper()
	if o, e := y.one(at, types); e != want || !alike(o, api.Object{}) {
		y.Errorf("One(%d): got %+v, %v, want %v", at, o, e, want)
	}
}

// wantObjects: of these things there are just these objects.
func (y *land) wantObjects(types []api.Desc, things []api.Run, want ...api.Object) {
	y.Helper()
	if l, e := y.objects(things, types); e != api.OK || !slices.EqualFunc(l, want, alike) {
		y.Errorf("Objects(%v): got %+v, %v, want %+v", things, l, e, want)
	}
}

// wantNoObjects: these things are refused, for that reason.
func (y *land) wantNoObjects(types []api.Desc, things []api.Run, want api.Errno) {
	y.Helper()
	if l, e := y.objects(things, types); e != want || len(l) != 0 {
		y.Errorf("Objects(%v): got %+v, %v, want %v", things, l, e, want)
	}
}

// wantPut: it is answered so; all words are held against the plain ones.
func (y *land) wantPut(r api.Run, h api.Head, want api.Errno) {
	y.Helper()
	if e := y.put(r, h); e != want {
		y.Errorf("Put(%v, %+v): got %v, want %v", r, h, e, want)
	}
}

// mixed is a row of numbers that come in no order that is plain to see, always the same.
type mixed uint64

// next is the next number, below that one.
func (m *mixed) next(under int) int {
	*m = *m*6364136223846793005 + 1442695040888963407
	return int(uint64(*m) >> 33 % uint64(under))
}
