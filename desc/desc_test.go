package desc_test

import (
	"math"
	"slices"
	"testing"

	"kraal/api"
	"kraal/desc"
)

// notKinds are numbers of which none is a kind's, though some have a kind's lowest bits.
var notKinds = []int{
	-1, -2, -3, -4, -255, -256, -1 << 31, -1 << 32, -1<<32 + 1, math.MinInt, math.MinInt + 1, math.MinInt + 3,
	4, 5, 6, 7, 8, 16, 60, 255, 256, 257, 259, 1 << 16, 1<<16 + 2, 1<<31 - 1, 1 << 31, 1 << 32, 1<<32 + 1, 1<<32 + 3, 1<<62 + 2, math.MaxInt - 1, math.MaxInt,
}

// away are numbers at which no list of up to a hundred types has one, and that are no N of an object or an array.
var away = []int{
	-1, -2, -3, -1 << 31, -1 << 32, -1<<32 + 1, math.MinInt, math.MinInt + 1, math.MinInt + 2,
	4001, 4002, 1 << 16, 1<<16 + 1, 1<<31 - 1, 1 << 31, 1 << 32, 1<<32 + 1, 1<<32 + 2, 1 << 60, 1<<62 + 1, math.MaxInt - 1, math.MaxInt,
}

// What may be, told in the simplest way.

func plainKind(kind int) bool { return kind == 0 || kind == 1 || kind == 2 || kind == 3 }

func plainMay(fields []int) bool {
	wrong := 0
	for _, kind := range fields {
		if !plainKind(kind) {
			wrong++
		}
	}
	return wrong == 0 && len(fields) != 0 && len(fields) < 61
}

func plainList(l []api.Desc) bool {
	right := 0
	for _, d := range l {
		if plainMay(d.Fields) {
			right++
		}
	}
	return right == len(l) && len(l) < 33
}

func plainRelax(fields []int) []int {
	var relaxed []int
	for _, kind := range fields {
		if kind == 2 || kind == 3 {
			kind = 1
		}
		relaxed = append(relaxed, kind)
	}
	return relaxed
}

func plainKinds(l []api.Desc, h api.Head) ([]int, api.Errno) {
	if h.Array && !plainKind(h.Kind) {
		return nil, api.ErrKind
	}
	if h.Array && (h.N < 0 || h.N > 4000) {
		return nil, api.ErrArg
	}
	var kinds []int
	if h.Array {
		for range h.N {
			kinds = append(kinds, h.Kind)
		}
		return kinds, api.OK
	}
	for i, d := range l {
		if i == h.Type && len(d.Fields) == h.N {
			return append(kinds, d.Fields...), api.OK
		}
		if i == h.Type {
			return nil, api.ErrArg
		}
	}
	return nil, api.ErrNone
}

// types are types of these fields.
func types(fields ...[]int) []api.Desc {
	var l []api.Desc
	for _, f := range fields {
		l = append(l, api.Desc{Fields: f})
	}
	return l
}

// row has n fields of all kinds, one behind the other.
func row(n int) []int {
	fields := make([]int, n)
	for i := range fields {
		fields[i] = (i + 1) % 4
	}
	return fields
}

// rows are n types, the first one of one field, each one of one more, but of 60 at most.
func rows(n int) []api.Desc {
	var l []api.Desc
	for i := range n {
		l = append(l, api.Desc{Fields: row(min(i+1, api.MaxFields))})
	}
	return l
}

// put is a list with another type in it, or fields with another kind.
func put[E any](l []E, at int, e E) []E {
	l = slices.Clone(l)
	l[at] = e
	return l
}

// every is every row of kinds of up to so many fields, of all numbers from -1 to 4.
func every(most int) [][]int {
	all := [][]int{{}}
	for from := 0; len(all[from]) < most; from++ {
		for kind := -1; kind <= 4; kind++ {
			all = append(all, append(slices.Clone(all[from]), kind))
		}
	}
	return all
}

func copied(l []api.Desc) []api.Desc {
	l = slices.Clone(l)
	for i := range l {
		l[i].Fields = slices.Clone(l[i].Fields)
	}
	return l
}

func same(a, b []api.Desc) bool {
	return slices.EqualFunc(a, b, func(d, e api.Desc) bool { return slices.Equal(d.Fields, e.Fields) })
}

// scribble writes into all that stands there, behind the list's end too.
func scribble(kinds []int) {
	kinds = kinds[:cap(kinds)]
	for i := range kinds {
		kinds[i] = 77
	}
}

func wantMay(t *testing.T, fields []int) {
	t.Helper()
	if got, want := desc.May(api.Desc{Fields: fields}), plainMay(fields); got != want {
		t.Errorf("May of %d fields, %v: got %v, want %v", len(fields), fields, got, want)
	}
}

func wantList(t *testing.T, l []api.Desc, want bool) {
	t.Helper()
	if plainList(l) != want {
		t.Fatalf("the plain model says otherwise of %v", l)
	}
	if got := desc.List(l); got != want {
		t.Errorf("List of %d types, %v: got %v, want %v", len(l), l, got, want)
	}
}

// wantKinds: Kinds answers as the plain one does, with that error, and changes nothing in the list.
func wantKinds(t *testing.T, l []api.Desc, h api.Head, wantErr api.Errno) {
	t.Helper()
	want, e := plainKinds(l, h)
	if e != wantErr {
		t.Fatalf("the plain model says %v of %+v", e, h)
	}
	was := copied(l)
	got, e := desc.Kinds(l, h)
	if e != wantErr || !slices.Equal(got, want) {
		t.Errorf("Kinds of %d types, %+v: got %v, %v, want %v, %v", len(l), h, got, e, want, wantErr)
	}
	if !same(l, was) {
		t.Errorf("Kinds(%+v) changed the list: %v, it was %v", h, l, was)
	}
}

// wantRelax: Relax answers as the plain one does, of what it answered too, and changes nothing in the list.
func wantRelax(t *testing.T, l []api.Desc) {
	t.Helper()
	want := copied(l)
	for i := range want {
		want[i].Fields = plainRelax(want[i].Fields)
	}
	was := copied(l)
	got := desc.Relax(l)
	if !same(got, want) {
		t.Errorf("Relax(%v): got %v, want %v", l, got, want)
	}
	if again := desc.Relax(got); !same(again, want) {
		t.Errorf("Relax(%v), relaxed already: got %v", got, again)
	}
	if !same(l, was) {
		t.Errorf("Relax changed the list: %v, it was %v", l, was)
	}
}

func TestP7_1Example(t *testing.T) {
	l := types([]int{api.Scalar, api.Counted})
	if !desc.List(l) {
		t.Error("List")
	}
	if got, e := desc.Kinds(l, api.Head{Type: 0, N: 2}); e != api.OK || !slices.Equal(got, []int{0, 1}) {
		t.Errorf("got %v, %v", got, e)
	}
}

func TestP7_1KindPointer(t *testing.T) {
	for kind, pointer := range map[int]bool{api.Scalar: false, api.Counted: true, api.Same: true, api.Up: true} {
		if !desc.Kind(kind) || desc.Pointer(kind) != pointer {
			t.Errorf("kind %d: Kind %v, Pointer %v", kind, desc.Kind(kind), desc.Pointer(kind))
		}
	}
	for _, kind := range notKinds {
		if desc.Kind(kind) || desc.Pointer(kind) {
			t.Errorf("number %d: Kind %v, Pointer %v", kind, desc.Kind(kind), desc.Pointer(kind))
		}
	}
	for kind := -1000; kind <= 1000; kind++ {
		if desc.Kind(kind) != plainKind(kind) || desc.Pointer(kind) != (plainKind(kind) && kind != 0) {
			t.Errorf("number %d: Kind %v, Pointer %v", kind, desc.Kind(kind), desc.Pointer(kind))
		}
	}
}

// TestP7_1MayFields: how many fields a type may have, of each kind and of mixed ones.
func TestP7_1MayFields(t *testing.T) {
	wantMay(t, nil)
	wantMay(t, []int{})
	for n := range 130 {
		wantMay(t, row(n))
		for kind := -1; kind <= 4; kind++ {
			wantMay(t, slices.Repeat([]int{kind}, n))
		}
	}
	for _, n := range []int{256, 257, 256 + 60, 1 << 16, 1<<16 + 1} {
		wantMay(t, row(n))
	}
	for _, fields := range every(4) {
		wantMay(t, fields)
	}
}

// TestP7_1MayWrongKind: one kind that isn't there, wherever it stands.
func TestP7_1MayWrongKind(t *testing.T) {
	for _, n := range []int{1, 2, 3, 59, 60, 61} {
		for at := range n {
			for _, kind := range notKinds {
				fields := put(row(n), at, kind)
				if desc.May(api.Desc{Fields: fields}) || desc.List(types([]int{0}, fields)) {
					t.Errorf("of %d fields the one at %d is %d: it may be", n, at, kind)
				}
			}
		}
	}
}

// TestP7_1ListTypes: how many types a list may have.
func TestP7_1ListTypes(t *testing.T) {
	wantList(t, nil, true)
	wantList(t, []api.Desc{}, true)
	for n := range 100 {
		wantList(t, rows(n), n <= 32)
		wantList(t, slices.Repeat(types([]int{3}), n), n <= 32)
	}
	wantList(t, slices.Repeat(types([]int{1}), 256), false)
	wantList(t, slices.Repeat(types([]int{1}), 1<<16+1), false)
	wantList(t, slices.Repeat(types(slices.Repeat([]int{1}, 60)), 32), true)
	wantList(t, slices.Repeat(types(slices.Repeat([]int{1}, 60)), 33), false)
}

// TestP7_1ListWrongType: one type that may not be, at the front, within, and at the end.
func TestP7_1ListWrongType(t *testing.T) {
	for _, wrong := range [][]int{nil, {}, {4}, {-1}, {0, 1, 2, 3, 4}, {-1, 0}, {0, math.MaxInt, 0}, row(61), row(100)} {
		for _, n := range []int{1, 2, 3, 31, 32, 33} {
			for at := range n {
				wantList(t, put(rows(n), at, api.Desc{Fields: wrong}), false)
			}
		}
	}
	for _, first := range every(2) {
		for _, second := range every(2) {
			wantList(t, types(first, second), plainMay(first) && plainMay(second))
		}
	}
}

// TestP7_1KindsOfObjects: of each type of a list; the first one, the last one, and one behind it; one field less and one more.
func TestP7_1KindsOfObjects(t *testing.T) {
	for _, n := range []int{1, 2, 3, 31, 32} {
		l := rows(n)
		for i, d := range l {
			wantKinds(t, l, api.Head{Type: i, N: len(d.Fields)}, api.OK)
			wantKinds(t, l, api.Head{Type: i, N: len(d.Fields) - 1}, api.ErrArg)
			wantKinds(t, l, api.Head{Type: i, N: len(d.Fields) + 1}, api.ErrArg)
			wantKinds(t, l, api.Head{Type: i, N: 0}, api.ErrArg)
			wantKinds(t, l, api.Head{Type: i, N: -len(d.Fields)}, api.ErrArg)
			for _, fields := range away {
				wantKinds(t, l, api.Head{Type: i, N: fields}, api.ErrArg)
			}
			wantKinds(t, l, api.Head{Type: n, N: len(d.Fields)}, api.ErrNone)
		}
		wantKinds(t, l, api.Head{Type: n + 1, N: 1}, api.ErrNone)
	}
	for kind := range 4 {
		for _, n := range []int{1, 2, 59, 60} {
			wantKinds(t, types([]int{0}, slices.Repeat([]int{kind}, n), []int{3}), api.Head{Type: 1, N: n}, api.OK)
		}
	}
}

// TestP7_1KindsOfNoType: of a type that isn't there nothing is told, whatever N is: that it isn't there comes first.
func TestP7_1KindsOfNoType(t *testing.T) {
	for _, l := range [][]api.Desc{nil, {}, rows(1), rows(3), rows(32)} {
		for _, i := range append(slices.Clone(away), len(l), len(l)+1, len(l)+32, 256, -256) {
			for _, n := range append(slices.Clone(away), 0, 1, 2, 3, 60) {
				wantKinds(t, l, api.Head{Type: i, N: n}, api.ErrNone)
			}
		}
	}
}

// TestP7_1KindsOfArrays: of each kind, from no element to the most; the list is of no account.
func TestP7_1KindsOfArrays(t *testing.T) {
	for _, l := range [][]api.Desc{nil, {}, rows(2), rows(33), types(nil, []int{9})} {
		for kind := range 4 {
			for _, n := range []int{0, 1, 2, 3, 60, 61, 255, 256, 257, 3999, 4000} {
				wantKinds(t, l, api.Head{Array: true, Kind: kind, N: n}, api.OK)
			}
			for _, n := range away {
				wantKinds(t, l, api.Head{Array: true, Kind: kind, N: n}, api.ErrArg)
			}
		}
		for _, kind := range notKinds {
			for _, n := range append(slices.Clone(away), 0, 1, 2, 4000) {
				wantKinds(t, l, api.Head{Array: true, Kind: kind, N: n}, api.ErrKind)
			}
		}
	}
}

// TestP7_1KindsOtherSort: what a head of the other sort names besides is of no account: an array's Type, another one's Kind.
func TestP7_1KindsOtherSort(t *testing.T) {
	l := rows(3)
	for _, other := range slices.Concat(notKinds, away, []int{0, 1, 2, 3}) {
		wantKinds(t, l, api.Head{Array: true, Kind: 2, N: 5, Type: other}, api.OK)
		wantKinds(t, l, api.Head{Array: true, Kind: 0, N: 0, Type: other}, api.OK)
		wantKinds(t, l, api.Head{Array: true, Kind: 4, N: 3, Type: other}, api.ErrKind)
		wantKinds(t, l, api.Head{Array: true, Kind: 3, N: 4001, Type: other}, api.ErrArg)
		wantKinds(t, l, api.Head{Type: 2, N: 3, Kind: other}, api.OK)
		wantKinds(t, l, api.Head{Type: 3, N: 3, Kind: other}, api.ErrNone)
		wantKinds(t, l, api.Head{Type: 1, N: 3, Kind: other}, api.ErrArg)
	}
}

// TestP7_1KindsOfWhatMayNotBe: lists and types that may not be are told as they are.
func TestP7_1KindsOfWhatMayNotBe(t *testing.T) {
	l := types([]int{0, 4, 1}, nil, []int{}, row(61), row(4001), notKinds, []int{3})
	for i, d := range l {
		wantKinds(t, l, api.Head{Type: i, N: len(d.Fields)}, api.OK)
		wantKinds(t, l, api.Head{Type: i, N: len(d.Fields) + 1}, api.ErrArg)
		wantKinds(t, l, api.Head{Type: i, N: len(d.Fields) - 1}, api.ErrArg)
	}
	wantKinds(t, l, api.Head{Type: len(l), N: 1}, api.ErrNone)
	long := rows(100)
	for i, d := range long {
		wantKinds(t, long, api.Head{Type: i, N: len(d.Fields)}, api.OK)
	}
	wantKinds(t, long, api.Head{Type: 100, N: 60}, api.ErrNone)
	for _, fields := range every(4) {
		wantKinds(t, types([]int{1}, fields), api.Head{Type: 1, N: len(fields)}, api.OK)
	}
}

// TestP7_1ErrorsAnswerNoList: with an error the list is none.
func TestP7_1ErrorsAnswerNoList(t *testing.T) {
	l := rows(3)
	for _, h := range []api.Head{{Type: 3, N: 3}, {Type: -1, N: 1}, {Type: 2, N: 2}, {Type: 2, N: 4}, {Array: true, Kind: 4, N: 2}, {Array: true, Kind: 1, N: 4001}, {Array: true, Kind: 1, N: -1}} {
		if kinds, e := desc.Kinds(l, h); e == api.OK || len(kinds) != 0 {
			t.Errorf("Kinds(%+v): got %v, %v", h, kinds, e)
		}
	}
}

func TestP7_1Relax(t *testing.T) {
	got := desc.Relax(types([]int{api.Scalar, api.Counted, api.Same, api.Up}, []int{api.Up}))
	if want := types([]int{api.Scalar, api.Counted, api.Counted, api.Counted}, []int{api.Counted}); !same(got, want) {
		t.Errorf("got %v, want %v", got, want)
	}
	wantRelax(t, nil)
	wantRelax(t, []api.Desc{})
	for _, n := range []int{1, 2, 31, 32} {
		wantRelax(t, rows(n))
	}
	for kind := range 4 {
		wantRelax(t, types(slices.Repeat([]int{kind}, 60), []int{kind}))
	}
}

// TestP7_1RelaxOfWhatMayNotBe: lists and types that may not be are relaxed all the same; what is no kind stays.
func TestP7_1RelaxOfWhatMayNotBe(t *testing.T) {
	wantRelax(t, rows(33))
	wantRelax(t, rows(100))
	wantRelax(t, types(nil))
	wantRelax(t, types([]int{}, nil, []int{2}))
	wantRelax(t, types(notKinds, slices.Concat([]int{2}, notKinds, []int{3}), row(61), row(5000)))
	for _, fields := range every(4) {
		wantRelax(t, types(fields))
		wantRelax(t, types([]int{3}, fields, []int{2}))
	}
}

// TestP7_1RelaxMay: what may be, may be relaxed, and what may not, may not.
func TestP7_1RelaxMay(t *testing.T) {
	for _, fields := range append(every(3), row(60), row(61)) {
		l := desc.Relax(types(fields))
		if len(l) != 1 || desc.May(l[0]) != plainMay(fields) {
			t.Errorf("of %v: got %v", fields, l)
		}
	}
}

// TestP7_1WriteIntoAnswers: whoever writes into what was answered changes neither what was handed in nor what is answered next.
func TestP7_1WriteIntoAnswers(t *testing.T) {
	shared := []int{0, 1, 2, 3, 3, 2}
	// Two types share their fields, and one has what stands behind another one's.
	l := types(shared[:4], shared[:4], shared[2:5], []int{}, nil)
	was := copied(l)
	heads := []api.Head{{Type: 0, N: 4}, {Type: 1, N: 4}, {Type: 2, N: 3}, {Type: 3}, {Type: 4}, {Array: true, Kind: 3, N: 4000}, {Array: true, Kind: 2, N: 1}, {Array: true}}
	for range 3 {
		for _, h := range heads {
			wantKinds(t, l, h, api.OK)
			kinds, _ := desc.Kinds(l, h)
			scribble(kinds)
			wantKinds(t, l, h, api.OK)
		}
		wantRelax(t, l)
		relaxed := desc.Relax(l)
		for i := range relaxed {
			scribble(relaxed[i].Fields)
		}
		clear(relaxed[:cap(relaxed)])
		wantRelax(t, l)
		if !same(l, was) || !slices.Equal(shared, []int{0, 1, 2, 3, 3, 2}) {
			t.Fatalf("what was handed in is %v now, %v", l, shared)
		}
	}
}

// TestP7_1AnswersShareNothing: what is written into one list of an answer isn't in another one of it.
func TestP7_1AnswersShareNothing(t *testing.T) {
	fields := []int{2, 3, 0}
	relaxed := desc.Relax(types(fields, fields, fields[:2], fields))
	want := [][]int{{1, 1, 0}, {1, 1, 0}, {1, 1}, {1, 1, 0}}
	for i := range relaxed {
		for j := i; j < len(relaxed); j++ {
			if !slices.Equal(relaxed[j].Fields, want[j]) {
				t.Errorf("%d, behind %d: got %v, want %v", j, i, relaxed[j].Fields, want[j])
			}
		}
		scribble(relaxed[i].Fields)
	}
	h := api.Head{Type: 0, N: 3}
	first, _ := desc.Kinds(types(fields), h)
	second, _ := desc.Kinds(types(fields), h)
	scribble(first)
	if !slices.Equal(second, fields) {
		t.Errorf("got %v", second)
	}
}

// TestP7_1WriteIntoArguments: what is written later into what was handed in changes nothing of what was answered, and is what counts from then on.
func TestP7_1WriteIntoArguments(t *testing.T) {
	l := types([]int{0, 1, 2, 3}, []int{3, 2})
	h := api.Head{Type: 0, N: 4}
	kinds, _ := desc.Kinds(l, h)
	relaxed := desc.Relax(l)
	again := desc.Relax(relaxed)
	l[0].Fields[0], l[0].Fields[3] = 3, 0
	l[1] = api.Desc{Fields: []int{4}}
	if !slices.Equal(kinds, []int{0, 1, 2, 3}) {
		t.Errorf("kinds: got %v", kinds)
	}
	want := types([]int{0, 1, 1, 1}, []int{1, 1})
	if !same(relaxed, want) || !same(again, want) {
		t.Errorf("relaxed: got %v, and %v", relaxed, again)
	}
	scribble(relaxed[0].Fields)
	if !same(again, want) {
		t.Errorf("relaxed twice: got %v", again)
	}
	wantKinds(t, l, h, api.OK)
	wantKinds(t, l, api.Head{Type: 1, N: 2}, api.ErrArg)
	wantRelax(t, l)
	wantList(t, l, false)
	l[1].Fields[0] = 3
	wantList(t, l, true)
}
